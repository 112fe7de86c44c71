"""Promise [10]: trees of a lot counted and numbered, and what cuts of a tree leave."""

import random
import time
import unittest
from itertools import combinations, product

from tests import judge, judge_trees, samples
from tests.asking import Asking
from wardsdrawn.errors import InvalidBounds, InvalidCount, InvalidLand, InvalidLot, InvalidPart
from wardsdrawn.lands import folk_of, pieces
from wardsdrawn.spans import (
    even_cuts, fairest_parts, is_tree, most_parts, nth_tree, parts, tree_count, tree_number,
)

SMALL = judge.lands((4, 1)) + judge.lands((2, 0, 5)) + judge.lands((3, 1, 0, 2))
LARGER = [samples.drawn_land(seed, 5 + seed % 3, 30 + 6 * (seed % 10)) for seed in range(20)]
# Here many cuts do as well as others.
EVEN = [(tuple(k % 2 + 1 for k in range(len(folk))), borders) for folk, borders in LARGER[::2]]
TWELVE = tuple(range(12))
FULL = samples.full(range(12))
FULL_TREES = 61917364224
SECONDS = 10


def lots_of(land, step=1):
    return judge.lots_within(judge.places_of(land))[::step]


def drawn_trees(lands, each):
    """Rows (land, lot, tree) of some drawn trees of lots of the lands."""
    draw = random.Random(7)
    found = []
    for land in lands:
        for lot in lots_of(land):
            trees = judge_trees.trees(land, lot)
            if trees and (len(lot) > 2 or draw.randrange(4) == 0):
                found += [(land, lot, tree) for tree in draw.sample(trees, min(each, len(trees)))]
    return draw.sample(found, min(len(found), 150))


TREES = drawn_trees(SMALL, 2) + drawn_trees(LARGER, 1) + drawn_trees(EVEN, 1)


class DocumentTest(Asking):
    """The examples of the document."""

    def test_examples(self):
        square, all_four = ((1, 2, 3, 4), ((0, 1), (0, 3), (1, 2), (2, 3))), (0, 1, 2, 3)
        tree = nth_tree(square, all_four, 2)
        self.same(
            [tree_count(square, all_four), tree, tree_number(square, all_four, tree),
             parts(square, all_four, tree, ((1, 2),))],
            [4, ((0, 1), (1, 2), (2, 3)), 2, ((0, 1), (2, 3))],
        )
        self.same(
            [even_cuts(square, all_four, tree, 3, 7), most_parts(square, all_four, tree, 3),
             fairest_parts(square, all_four, tree, 2)],
            [((1, 2), (2, 3)), (3, ((1, 2), (2, 3))), (4, ((2, 3),))],
        )


class TreesTest(Asking):

    def ask(self, land, lot):
        found = judge_trees.trees(land, lot)
        self.same(tree_count(land, lot), len(found))
        for number, tree in enumerate(found):
            self.same(nth_tree(land, lot, number), tree)
            self.same(tree_number(land, lot, tree), number)
            self.same(is_tree(land, lot, tree), True)
        for number in (-1, len(found), len(found) + 1, 10 ** 89, True, None, "0"):
            self.raises(InvalidCount, nth_tree, land, lot, number)

    def test_small_lots(self):
        for land in SMALL:
            for lot in lots_of(land):
                self.ask(land, lot)

    def test_larger_lots(self):
        for k, land in enumerate(LARGER):
            for lot in lots_of(land)[k % 5::5]:
                if len(judge_trees.trees(land, lot)) < 400:
                    self.ask(land, lot)

    def test_lots_of_some_places_of_twelve(self):
        for land in (FULL, samples.drawn_land(3, 12, 50)):
            for lot in ((0, 1, 2), (0, 5, 11), (2, 3, 7, 10), (1, 11), (4,), (3, 4, 8, 9, 11)):
                self.ask(land, lot)

    def test_all_rows_of_borders_against_all_trees(self):
        for land in judge.lands((1, 0, 2))[::2] + judge.lands((1, 0, 2, 3))[::9]:
            pairs = [(low, high) for low in range(3) for high in range(4)]
            rows = [row for many in range(3) for row in product(pairs, repeat=many)]
            rows += list(product(land[1], repeat=3))
            for lot in lots_of(land, 2):
                right = [repr(tree) for tree in judge_trees.trees(land, lot)]
                for row in rows:
                    self.same(is_tree(land, lot, row), repr(row) in right)

    def test_changed_trees(self):
        for land, lot, tree in TREES[::2]:
            right = [repr(other) for other in judge_trees.trees(land, lot)]
            for value in self.changed(land, tree):
                if type(value) is tuple:
                    self.same(is_tree(land, lot, value), repr(value) in right)
                else:
                    self.same(is_tree(land, lot, value), False)
                if repr(value) not in right:
                    self.raises(InvalidPart, tree_number, land, lot, value)

    def changed(self, land, tree):
        found = [list(tree), tree[::-1], tree[1:], tree + tree[:1], tree + ((0, 1),), (tree,), None, str(tree)]
        for k, border in enumerate(tree):
            for other in (*land[1], border[::-1], list(border), border + (0,), border[:1], (), None, (0, 10 ** 89),
                          (bool(border[0]), border[1]) if border[0] < 2 else None,
                          (border[0], True) if border[1] == 1 else None):
                found += [tree[:k] + (other,) + tree[k + 1:]]
                found += [tuple(sorted(found[-1]))] if other in land[1] else []
        return found

    def test_one_place(self):
        for land in (FULL, samples.empty((3,) * 12), samples.LAND):
            for lot in ((0,), (4,)):
                self.same(tree_count(land, lot), 1)
                self.same(nth_tree(land, lot, 0), ())
                self.same(tree_number(land, lot, ()), 0)
                self.same(is_tree(land, lot, ()), True)
                self.same(is_tree(land, lot, []), False)
                self.same(is_tree(land, lot, ((0, 1),)), False)
                self.raises(InvalidCount, nth_tree, land, lot, 1)
                self.raises(InvalidPart, tree_number, land, lot, ((0, 1),))
                self.same(parts(land, lot, (), ()), (lot,))
                self.same(even_cuts(land, lot, (), 0, 99), ())
                folk = folk_of(land, lot)
                self.same(most_parts(land, lot, (), folk), (1, ()))
                self.same(most_parts(land, lot, (), folk + 1), (0, ()))
                self.same(fairest_parts(land, lot, (), 1), (folk, ()))
                self.raises(InvalidCount, fairest_parts, land, lot, (), 2)

    def test_lots_that_do_not_hang_together(self):
        apart = ((1,) * 6, ((0, 1), (0, 2), (1, 2), (3, 4), (3, 5), (4, 5)))
        for land, lot in ((apart, (0, 1, 2, 3, 4, 5)), (apart, (0, 3)), (apart, (0, 1, 3, 4)), (apart, (2, 3, 4, 5)),
                          (samples.empty((1,) * 12), TWELVE), (samples.path((1,) * 12), (0, 1, 2, 4, 5)),
                          (samples.star((1,) * 12), TWELVE[1:]), (((1,) * 4, ((0, 1), (0, 2), (1, 2))), (0, 1, 2, 3))):
            self.same(tree_count(land, lot), 0)
            for value in ((), judge_trees.within(land, lot)[:len(lot) - 1], land[1]):
                self.same(is_tree(land, lot, tuple(value)), False)
                self.raises(InvalidPart, tree_number, land, lot, tuple(value))
            for number in (0, 1, -1, None):
                self.raises(InvalidCount, nth_tree, land, lot, number)

    def test_where_each_two_of_twelve_are_neighbours(self):
        began = time.monotonic()
        self.same(tree_count(FULL, TWELVE), FULL_TREES)
        self.same(nth_tree(FULL, TWELVE, 0), tuple((0, k) for k in range(1, 12)))
        self.same(nth_tree(FULL, TWELVE, FULL_TREES - 1), tuple((k, 11) for k in range(11)))
        for number in (0, 1, 2, 12345678901, FULL_TREES // 2, FULL_TREES // 3, FULL_TREES - 2, FULL_TREES - 1):
            tree = nth_tree(FULL, TWELVE, number)
            self.same(is_tree(FULL, TWELVE, tree), True)
            self.same(tree_number(FULL, TWELVE, tree), number)
        self.raises(InvalidCount, nth_tree, FULL, TWELVE, FULL_TREES)
        self.assertLess(time.monotonic() - began, SECONDS)

    def test_counts_that_are_known(self):
        self.same([tree_count(FULL, TWELVE[:many]) for many in range(1, 8)], [1, 1, 3, 16, 125, 1296, 16807])
        self.same(tree_count(samples.ring_of((1,) * 12), TWELVE), 12)
        self.same(tree_count(samples.path((1,) * 12), TWELVE), 1)
        self.same(tree_count(samples.star((1,) * 12), TWELVE), 1)
        halves = ((1,) * 12, tuple((low, high) for low in range(6) for high in range(6, 12)))
        self.same(tree_count(halves, TWELVE), 6 ** 10)

    def test_trees_of_twelve_places_stand_in_sequence(self):
        draw = random.Random(2)
        for land in (FULL, samples.drawn_land(5, 12, 35), samples.drawn_land(6, 12, 60), samples.ring_of((1,) * 12)):
            many = tree_count(land, TWELVE)
            self.assertGreater(many, 0)
            numbers = sorted({0, many - 1, many // 2, *(draw.randrange(many) for _ in range(12))})
            trees = [nth_tree(land, TWELVE, number) for number in numbers]
            self.assertEqual(trees, sorted(trees))
            self.same([tree_number(land, TWELVE, tree) for tree in trees], numbers)
            self.assertTrue(all(is_tree(land, TWELVE, tree) for tree in trees))


class PartsTest(Asking):

    def test_against_all_cuts(self):
        for land, lot, tree in TREES:
            for cuts in judge_trees.all_cuts(tree):
                self.same(parts(land, lot, tree, cuts), judge_trees.parts(land, lot, tree, cuts))

    def test_no_cut_and_all_borders(self):
        for land, lot, tree in TREES:
            self.same(parts(land, lot, tree, ()), (lot,))
            self.same(parts(land, lot, tree, tree), tuple((place,) for place in lot))

    def test_ascending_by_their_first_places(self):
        land = ((1,) * 5, ((0, 4), (1, 3), (2, 3), (2, 4)))
        self.same(parts(land, (0, 1, 2, 3, 4), land[1], ((2, 4),)), ((0, 4), (1, 2, 3)))
        self.same(parts(land, (0, 1, 2, 3, 4), land[1], ((2, 3),)), ((0, 2, 4), (1, 3)))
        self.same(parts(land, (0, 1, 2, 3, 4), land[1], ((0, 4), (2, 3))), ((0,), (1, 3), (2, 4)))

    def test_borders_of_the_land_that_are_not_of_the_tree_join_nothing(self):
        self.same(parts(samples.RING, (0, 1, 2, 3), samples.RING_TREE, ((1, 2),)), ((0, 1), (2, 3)))
        self.same(parts(FULL, (2, 5, 9), ((2, 5), (2, 9)), ((2, 5), (2, 9))), ((2,), (5,), (9,)))

    def test_even_cuts(self):
        for land, lot, tree in TREES:
            whole = judge.folk_of(land, lot)
            sides = sorted({judge.folk_of(land, part) for border in tree
                            for part in judge_trees.parts(land, lot, tree, (border,))})
            for low in sorted({0, 1, *sides, *(number + 1 for number in sides), whole + 1}):
                for high in sorted({low, *sides, *(number - 1 for number in sides), whole, whole + 1, 10 ** 89}):
                    if high >= low:
                        wanted = judge_trees.even_cuts(land, lot, tree, low, high)
                        self.same(even_cuts(land, lot, tree, low, high), wanted)

    def test_most_parts(self):
        for land, lot, tree in TREES:
            folk = {judge.folk_of(land, part) for cuts in judge_trees.all_cuts(tree)
                    for part in judge_trees.parts(land, lot, tree, cuts)}
            for low in sorted({0, 1, *folk, *(number + 1 for number in folk)}):
                self.same(most_parts(land, lot, tree, low), judge_trees.most_parts(land, lot, tree, low))

    def test_most_parts_at_the_edges(self):
        for land, lot, tree in TREES:
            whole = judge.folk_of(land, lot)
            self.same(most_parts(land, lot, tree, 0), (len(lot), tree))
            for low in (whole + 1, whole + 2, 10 ** 89, 10 ** 90 - 1):
                self.same(most_parts(land, lot, tree, low), (0, ()))
            if whole > 0:
                # No two parts have the folk of the whole each.
                self.same(most_parts(land, lot, tree, whole), (1, ()))
        self.same(most_parts(samples.full((0,) * 12), (0, 1), ((0, 1),), 0), (2, ((0, 1),)))
        self.same(most_parts(samples.full((0,) * 12), (0, 1), ((0, 1),), 1), (0, ()))

    def test_fairest_parts(self):
        for land, lot, tree in TREES:
            for count in range(1, len(lot) + 1):
                self.same(fairest_parts(land, lot, tree, count), judge_trees.fairest_parts(land, lot, tree, count))
            for count in (0, -1, len(lot) + 1, True, None, "1", 10 ** 89):
                self.raises(InvalidCount, fairest_parts, land, lot, tree, count)

    def test_fairest_parts_at_the_edges(self):
        for land, lot, tree in TREES:
            self.same(fairest_parts(land, lot, tree, 1), (judge.folk_of(land, lot), ()))
            self.same(fairest_parts(land, lot, tree, len(lot)), (min(land[0][place] for place in lot), tree))

    def test_the_least_cuts_of_those_that_do_as_well(self):
        land, every = samples.path((1,) * 6), (0, 1, 2, 3, 4, 5)
        self.same(most_parts(land, every, land[1], 2), (3, ((1, 2), (3, 4))))
        self.same(most_parts(land, every, land[1], 3), (2, ((2, 3),)))
        self.same(most_parts(land, every, land[1], 4), (1, ()))
        self.same(fairest_parts(land, every, land[1], 3), (2, ((1, 2), (3, 4))))
        self.same(fairest_parts(land, every, land[1], 4), (1, ((0, 1), (1, 2), (2, 3))))
        self.same(fairest_parts(land, every, land[1], 2), (3, ((2, 3),)))
        star = samples.star((5, 1, 1, 1, 1))
        self.same(most_parts(star, every[:5], star[1], 1), (5, star[1]))
        self.same(fairest_parts(star, every[:5], star[1], 3), (1, ((0, 1), (0, 2))))
        self.same(most_parts(samples.path((1, 1, 2, 1, 1)), every[:5], land[1][:4], 2), (3, ((1, 2), (2, 3))))
        self.same(most_parts(samples.path((2, 0, 2)), every[:3], land[1][:2], 2), (2, ((0, 1),)))

    def test_twelve_places_end_soon(self):
        for number in (0, 30000000000, FULL_TREES - 1):
            tree = nth_tree(FULL, TWELVE, number)
            began = time.monotonic()
            self.same(parts(FULL, TWELVE, tree, tree[::2]), judge_trees.parts(FULL, TWELVE, tree, tree[::2]))
            self.same(even_cuts(FULL, TWELVE, tree, 9, 57), judge_trees.even_cuts(FULL, TWELVE, tree, 9, 57))
            for low in (0, 1, 11, 66, 67):
                self.same(most_parts(FULL, TWELVE, tree, low)[0], self.most_going_up(tree, low))
            for count in range(1, 13):
                low, cuts = fairest_parts(FULL, TWELVE, tree, count)
                self.same(judge_trees.least(FULL, TWELVE, tree, cuts), low)
                self.assertGreaterEqual(self.most_going_up(tree, low), count)
                self.assertLess(self.most_going_up(tree, low + 1), count)
            self.assertLess(time.monotonic() - began, 2 * SECONDS)

    def most_going_up(self, tree, low):
        return judge_trees.parts_going_up(FULL, TWELVE, tree, 4, low)

    def test_greatest_folk(self):
        land = samples.full([1000000] * 12)
        tree = nth_tree(land, TWELVE, FULL_TREES // 2)
        self.same(fairest_parts(land, TWELVE, tree, 1), (12000000, ()))
        self.same(most_parts(land, TWELVE, tree, 12000000), (1, ()))
        self.same(most_parts(land, TWELVE, tree, 12000001), (0, ()))
        self.same(most_parts(land, TWELVE, tree, 1000000), (12, tree))


class WrongPartsTest(Asking):

    def test_trees_that_are_none(self):
        ring, every = samples.RING, (0, 1, 2, 3)
        for tree in samples.NO_TREES:
            self.same(is_tree(ring, every, tree), False)
            for call, more in ((tree_number, ()), (parts, ((),)), (even_cuts, (0, 9)), (most_parts, (0,)),
                               (fairest_parts, (1,))):
                self.raises(InvalidPart, call, ring, every, tree, *more)
                self.raises(InvalidLot, call, ring, (), tree, *more)
                self.raises(InvalidLand, call, (ring[0], None), (), tree, *more, field="place", worth=(1,))

    def test_a_tree_of_another_lot(self):
        for call, more in ((tree_number, ()), (parts, ((),)), (even_cuts, (0, 9)), (most_parts, (0,)),
                           (fairest_parts, (1,))):
            self.raises(InvalidPart, call, samples.RING, (0, 1, 2), samples.RING_TREE, *more)
            self.raises(InvalidPart, call, samples.RING, (0, 1, 3), ((0, 1), (1, 2)), *more)
            self.raises(InvalidPart, call, samples.RING, (1, 3), ((1, 3),), *more)
        self.same(is_tree(samples.RING, (0, 1, 2), ((0, 1), (1, 2))), True)
        self.same(is_tree(samples.RING, (0, 1, 3), ((0, 1), (1, 2))), False)

    def test_cuts_that_are_none(self):
        for cuts in samples.NO_CUTS_OF_TREE:
            self.raises(InvalidPart, parts, samples.RING, (0, 1, 2, 3), samples.RING_TREE, cuts)
            self.raises(InvalidPart, parts, samples.RING, (0, 1, 2, 3), (), cuts)

    def test_bounds_that_are_none(self):
        ring, every, tree = samples.RING, (0, 1, 2, 3), samples.RING_TREE
        for low in samples.NO_LOWS:
            self.raises(InvalidBounds, even_cuts, ring, every, tree, low, 9)
            self.raises(InvalidBounds, most_parts, ring, every, tree, low)
            self.raises(InvalidPart, even_cuts, ring, every, None, low, 9)
            self.raises(InvalidPart, most_parts, ring, every, None, low)
        for high in samples.NO_HIGHS:
            self.raises(InvalidBounds, even_cuts, ring, every, tree, 6, high)
        self.raises(InvalidBounds, even_cuts, ring, every, tree, 10 ** 89, 10 ** 89 - 1)
        self.same(even_cuts(ring, every, tree, 10 ** 89, 10 ** 89), ())

    def test_the_tree_is_asked_ahead_of_the_count(self):
        for count in samples.NO_PART_COUNTS:
            self.raises(InvalidPart, fairest_parts, samples.RING, (0, 1, 2, 3), (), count)
            self.raises(InvalidCount, fairest_parts, samples.RING, (0, 1, 2, 3), samples.RING_TREE, count)


class FactTTest(Asking):
    """Fact T."""

    def test_a_border_is_in_the_trees_less_those_without_it(self):
        for land in (*SMALL, *LARGER):
            for lot in lots_of(land, 3):
                trees = judge_trees.trees(land, lot)
                for border in judge_trees.within(land, lot):
                    without = (land[0], tuple(other for other in land[1] if other != border))
                    having = len([tree for tree in trees if border in tree])
                    self.same(tree_count(land, lot) - tree_count(without, lot), having)

    def test_by_symmetry_of_twelve_places(self):
        without = (FULL[0], FULL[1][1:])
        # All 66 borders are alike, and each tree has eleven.
        self.same((FULL_TREES - tree_count(without, TWELVE)) * 66, FULL_TREES * 11)

    def test_going_up_cuts_off_the_most_parts(self):
        for land, lot, tree in TREES:
            whole = judge.folk_of(land, lot)
            for top in lot:
                for low in {1, 2, 3, max(1, whole // 3), max(1, whole // 2), whole + 1, *land[0]}:
                    count = judge_trees.parts_going_up(land, lot, tree, top, low)
                    self.same(most_parts(land, lot, tree, low)[0], count)

    def test_each_tree_joins_the_lot_by_one_border_less_than_places(self):
        for land, lot, tree in TREES:
            self.assertEqual(len(tree), len(lot) - 1)
            for many in range(len(tree) + 1):
                for cuts in list(combinations(tree, many))[:3]:
                    self.assertEqual(len(parts(land, lot, tree, cuts)), many + 1)
            self.same(pieces((land[0], tree), lot), (lot,))


if __name__ == "__main__":
    unittest.main()
