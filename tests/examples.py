"""The examples of the whole document, in its sequence: what is asked, and what is answered or raised."""

EXAMPLES = """
>>> from wardsdrawn.lands import cut_borders, cut_places, land_fault, near_wards, pieces, plan_fault, plan_of, spread, turned
>>> land = ((5, 2, 0, 4, 7), ((0, 1), (0, 2), (1, 2), (2, 3), (3, 4)))
>>> plan = plan_of(land, (7, 7, 7, -1, -1))
>>> [plan, cut_borders(land, plan), near_wards(land, plan), spread(land, plan), cut_places(land, (0, 1, 2, 3, 4))]
[((0, 1, 2), (3, 4)), ((2, 3),), ((0, 1),), 4, (2, 3)]
>>> [pieces(land, (0, 1, 3)), land_fault(((5, 2), ((1, 0),))), plan_fault(land, ((0, 1, 2), (3,))), plan_fault(land, ((0, 3), (1, 2, 4)))]
[((0, 1), (3,)), (1, 0), 2, 0]
>>> turned(land, (1, 2, 0, 3, 4))
((2, 0, 5, 4, 7), ((0, 1), (0, 2), (1, 2), (1, 3), (3, 4)))
>>> plan_of(land, (1, 2, 1, 2, 1))
raises Refused('..')
>>> ring = ((3, 1, 2, 2), ((0, 1), (0, 3), (1, 2), (2, 3)))
>>> tail = ((1, 1, 1, 1), ((0, 1), (1, 2), (1, 3)))
>>> [ordered(ring, 0, 2), order_count(ring, 0, 2), nth_order(ring, 0, 2, 1), ordered(tail, 0, 2), order_count(tail, 0, 2)]
[('yes', (0, 1, 3, 2)), 2, (0, 3, 1, 2), ('no', 1, (3,)), 0]
>>> [is_order(ring, 0, 2, (0, 3, 1, 2)), is_order(ring, 0, 1, (0, 2, 3, 1)), is_shut(tail, 0, 2, 1, (3,)), is_shut(tail, 0, 2, None, (3,))]
[True, False, True, False]
>>> [two_wards(ring, 0, 2, 2), ward_counts(ring, 0, 2), fairest(ring, 0, 2), by_order(ring, 0, 2, (0, 3, 1, 2), 2)]
[((0, 1), (2, 3)), (1, 2, 1), (0, (0, 1), (2, 3)), ((0, 3), (1, 2))]
>>> [barred_sizes(tail, 0, 2), two_wards(tail, 0, 2, 2), two_wards(tail, 0, 2, 3), fairest(tail, 0, 2)]
[(2,), None, ((0, 1, 3), (2,)), (2, (0,), (1, 2, 3))]
>>> path = ((1, 2, 3, 4), ((0, 1), (1, 2), (2, 3)))
>>> [wished(path, (1, 2), (2, 2)), are_cases(path, (1, 2), (1, 3), ("split", 0, (("over", 0), ("shut", 1)))), are_cases(path, (1, 2), (1, 3), ("shut", 0))]
[('yes', ((0, 1), (2, 3))), True, False]
>>> square, all_four = ((1, 2, 3, 4), ((0, 1), (0, 3), (1, 2), (2, 3))), (0, 1, 2, 3)
>>> tree = nth_tree(square, all_four, 2)
>>> [tree_count(square, all_four), tree, tree_number(square, all_four, tree), parts(square, all_four, tree, ((1, 2),))]
[4, ((0, 1), (1, 2), (2, 3)), 2, ((0, 1), (2, 3))]
>>> [even_cuts(square, all_four, tree, 3, 7), most_parts(square, all_four, tree, 3), fairest_parts(square, all_four, tree, 2)]
[((1, 2), (2, 3)), (3, ((1, 2), (2, 3))), (4, ((2, 3),))]
>>> isle, halves = ((5, 2, 0, 4, 7), ((0, 1), (0, 2), (1, 2), (2, 3), (3, 4))), ((0, 1, 2), (3, 4))
>>> [near(isle, halves, 6, 12), fits(isle, ((0,), (1, 2, 3, 4)), 6, 12), len(closed_lots(isle, 2, 6, 12))]
[(((0, 1), (2, 3, 4)), ((0, 1, 2, 3), (4,))), False, 1]
>>> led(isle, halves, ((0,), (1, 2, 3, 4)), 0, 99)
('yes', (((0, 1, 2), (3, 4)), ((0, 1), (2, 3, 4)), ((0,), (1, 2, 3, 4))))
>>> from wardsdrawn.walks import behind, chance, nexts, share, wandered
>>> square = ((1, 1, 1, 1), ((0, 1), (0, 2), (1, 3), (2, 3)))
>>> across, along = ((0, 1), (2, 3)), ((0, 2), (1, 3))
>>> [chance(square, across, along, 2, 2), chance(square, across, across, 2, 2), share(square, along, 2, 2), nexts(square, across, 1, 3)[1:3]]
[(1, 12), (11, 12), (1, 2), ((((0, 1), (2, 3)), (7, 12)), (((0, 1, 2), (3,)), (1, 12)))]
>>> wandered(((1, 1, 1), ((0, 1), (1, 2))), ((0,), (1, 2)), 1, 2, ((0, 0, 1, 0), (3, 5, 2, 9)))
(((0,), (1, 2)), ((0, 1), (2,)), ((0,), (1, 2)))
>>> weights = (1, 1, 1, 1, 1)
>>> [label(isle, halves, weights), is_strange((1, 2, 3), (1, 3)), strange_chance(isle, halves, 6, 12, weights, 1, (1, 2))]
[1, True, (1, 5)]
>>> [strange_share(isle, halves, 6, 12, weights, 1, (1, 2)), chances(isle, halves, 6, 12, 1)[1:]]
[(1, 15), ((((0, 1, 2), (3, 4)), (3, 5)), (((0, 1, 2, 3), (4,)), (1, 5)))]
>>> land = ((2, 2, 2, 2, 2, 2), ((0, 1), (0, 3), (1, 2), (1, 4), (2, 5), (3, 4), (4, 5)))
>>> shires = ((0, 1, 2), (3, 4, 5))
>>> [cut_shires(land, ((0, 3), (1, 2, 4, 5)), shires), common_lots(land, ((0, 3), (1, 2, 4, 5)), shires), is_nested(land, ((0, 1), (2,), (3, 4, 5)), shires)]
[(0, 1), ((0,), (1, 2), (3,), (4, 5)), True]
>>> [fewest_cut(land, shires, 2, 6, 6), fewest_cut(land, shires, 3, 4, 4), is_barred(land, shires, (0,), 3, 4, 4), bundled(land, shires, (1,))]
[((), ((0, 1, 2), (3, 4, 5))), ((0, 1), ((0, 1), (2, 5), (3, 4))), True, (((2, 2, 2, 6), ((0, 1), (0, 3), (1, 2), (1, 3), (2, 3))), ((0,), (1,), (2,), (3, 4, 5)))]
>>> desk = Desk(land, ((0, 1, 2), (3, 4, 5)), 4, 8)
>>> [desk.could(), desk.give(2, 1), desk.plan, desk.folk(), desk.cut(), desk.trade(1, 3), desk.plan]
[((0, 1), (2, 1), (3, 0), (5, 0)), None, ((0, 1), (2, 3, 4, 5)), (4, 8), 3, None, ((0, 3), (1, 2, 4, 5))]
>>> [desk.part(1, (1, 2)), desk.plan, desk.join(0, 2), desk.plan, desk.undo(), desk.edits, desk.ward_of(4)]
[None, ((0, 3), (1, 2), (4, 5)), None, ((0, 3, 4, 5), (1, 2)), None, 3, 2]
>>> from wardsdrawn.texts import land_text, land_told, plan_text, plan_told, tape_told
>>> land = land_told("folk 5 2 0 7\\n3: 2 1\\n0: 1")
>>> [land, land_text(land)]
[((5, 2, 0, 7), ((0, 1), (1, 3), (2, 3))), 'folk 5 2 0 7\\n0: 1\\n1: 3\\n2: 3']
>>> [plan_told(land, "3 2\\n1 0"), plan_text(land, ((0, 1), (2, 3))), tape_told("0 12 3 1")]
[((0, 1), (2, 3)), '0 1\\n2 3', ((0, 12, 3, 1),)]
>>> land_told("folk 1 1\\n0: 1\\n1: 0")
raises Twice('0-1')
>>> land_told("folk 1 01")
raises InvalidText(8)
>>> from wardsdrawn.drawn import arcs, arcs_told, bars, listed, square
>>> land = ((5, 2, 0, 4), ((0, 1), (0, 2), (1, 2), (2, 3)))
>>> plan = ((0, 1), (2, 3))
>>> [square(land, plan), bars(land, plan, 5), listed(land, plan)]
[('a-#.', '-a#.', '##b-', '..-b'), ('a #####', 'b ##+..'), ('a 7 : 0 1', 'b 4 : 2 3')]
>>> arcs(land, plan)
('+-+....', '+===+..', '..+=+..', '....+-+', 'a a b b')
>>> arcs_told((5, 2), ("+-+", "a a"))
(((5, 2), ((0, 1),)), ((0, 1),))
>>> from wardsdrawn.console import Console
>>> board = Console()
>>> [board.execute(line) for line in ("land\\nfolk 2 2 2 2 2 2\\n0: 1 3\\n1: 2 4\\n2: 5\\n3: 4\\n4: 5", "desk 4 8\\n0 1 2\\n3 4 5", "could", "give 2 1", "plan", "folk", "cut", "spread")]
['', '', '0 1\\n2 1\\n3 0\\n5 0', '', '0 1\\n2 3 4 5', '4 8', '3', '4']
>>> [board.execute(line) for line in ("shires\\n0 1 2\\n3 4 5", "split", "nested", "fewest 2", "within 4 40", "fewest 3", "bounds")]
['', '0', 'no', 'cut none\\n0 1 2\\n3 4 5', '', 'cut 0 1\\n0 1\\n2 5\\n3 4', '4 40']
"""
