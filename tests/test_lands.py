"""Promise [6]: lands, lots of their places, and plans."""

import random
import unittest
from itertools import permutations, product

from tests import judge, samples
from tests.asking import Asking
from wardsdrawn.errors import InvalidLand, InvalidPart, InvalidPlan, Refused
from wardsdrawn.lands import (
    cut_borders, cut_places, folk_of, hangs, is_land, is_plan, land_fault, near_wards, neighbours, pieces, plan_fault,
    plan_of, spread, turned, turned_plan, ward_of,
)

# All lands of two, three and four places, and some of five to eight.
SMALL = judge.lands((3, 8)) + judge.lands((4, 0, 9)) + judge.lands((2, 7, 1, 1))
LARGER = [samples.drawn_land(seed, 5 + seed % 4, 20 + 5 * (seed % 9)) for seed in range(24)]


class DocumentTest(Asking):
    """The examples of the document."""

    def test_examples(self):
        land = ((5, 2, 0, 4, 7), ((0, 1), (0, 2), (1, 2), (2, 3), (3, 4)))
        plan = plan_of(land, (7, 7, 7, -1, -1))
        self.same(
            [plan, cut_borders(land, plan), near_wards(land, plan), spread(land, plan),
             cut_places(land, (0, 1, 2, 3, 4))],
            [((0, 1, 2), (3, 4)), ((2, 3),), ((0, 1),), 4, (2, 3)],
        )
        self.same(
            [pieces(land, (0, 1, 3)), land_fault(((5, 2), ((1, 0),))), plan_fault(land, ((0, 1, 2), (3,))),
             plan_fault(land, ((0, 3), (1, 2, 4)))],
            [((0, 1), (3,)), (1, 0), 2, 0],
        )
        self.same(turned(land, (1, 2, 0, 3, 4)), ((2, 0, 5, 4, 7), ((0, 1), (0, 2), (1, 2), (1, 3), (3, 4))))
        self.raises(Refused, plan_of, land, (1, 2, 1, 2, 1))


class LandFaultTest(Asking):

    def test_lands(self):
        for land in (*SMALL, *LARGER, *samples.TWELVES, ((0, 1000000), ()), ((1000000, 0), ((0, 1),))):
            self.same(land_fault(land), None)
            self.same(is_land(land), True)

    def test_each_fault_and_its_place(self):
        for value, place in samples.NO_LANDS:
            with self.subTest(repr(value)[:80]):
                self.same(land_fault(value), place)
                self.same(is_land(value), False)

    def test_each_member_of_folk_at_fault(self):
        for many in (2, 5, 12):
            for k in range(many):
                for wrong in (-1, 1000001, True, None, "1", (1,), 10 ** 89):
                    folk = [4] * many
                    folk[k] = wrong
                    self.same(land_fault((tuple(folk), ())), (0, k))
                    self.same(land_fault((tuple(folk), None)), (0, k))
                    self.same(land_fault((tuple(folk[:k + 1]) + (-1,) * (many - k - 1), ())), (0, k))

    def test_each_border_at_fault(self):
        folk, borders = samples.full((1,) * 5)
        for k in range(len(borders)):
            low, high = borders[k]
            for wrong in (None, (high, low), (low, low), (low, high, 0), (low,), [low, high], (low, 5), (-1, high),
                          (low, str(high)), (low, True), ()):
                self.same(land_fault((folk, borders[:k] + (wrong,) + borders[k + 1:])), (1, k))
                self.same(land_fault((folk, borders[:k] + (wrong,) * 3)), (1, k))
            if k > 0:
                self.same(land_fault((folk, borders[:k] + (borders[k - 1],) + borders[k:])), (1, k))
                self.same(land_fault((folk, borders[:k - 1] + (borders[k], borders[k - 1]))), (1, k))

    def test_folk_is_ahead_of_borders(self):
        self.same(land_fault(((1,), ((1, 0),))), (0,))
        self.same(land_fault(((1, 1, -1), ((1, 0),))), (0, 2))
        self.same(land_fault(((1, 1, 1), ((0, 1), (1, 1), (0, 1)))), (1, 1))

    def test_rows_of_borders_against_all_lands(self):
        pairs = [(low, high) for low in range(-1, 4) for high in range(-1, 4)]
        right = judge.lands((1, 0, 2))
        for rows in [(), *product(pairs, repeat=1), *product(pairs, repeat=2)]:
            value = ((1, 0, 2), rows)
            self.same(is_land(value), value in right)


class PlanFaultTest(Asking):

    def test_each_fault_and_its_index(self):
        for value, index in samples.NO_PLANS:
            with self.subTest(repr(value)[:80]):
                self.same(plan_fault(samples.LAND, value), index)
                self.same(is_plan(samples.LAND, value), False)

    def test_all_rows_of_lots_against_all_plans(self):
        lots = [(), (0,), (1,), (2,), (0, 1), (0, 2), (1, 2), (0, 1, 2), (1, 0), (0, 0), (3,)]
        rows = [row for many in range(4) for row in product(lots, repeat=many)]
        for land in judge.lands((1, 2, 3)):
            right = set(judge.plans(land))
            for row in rows:
                self.same(is_plan(land, row), row in right)
                self.same(plan_fault(land, row), None if row in right else self.first_fault(land, row))

    def first_fault(self, land, row):
        """The index of the first fault: up to it the row has none."""
        if row == ():
            return 0
        every = set(judge.places_of(land))
        for k, ward in enumerate(row):
            taken = {place for other in row[:k] for place in other}
            if not ward or tuple(sorted(set(ward))) != ward or not set(ward) <= every - taken:
                return k
            if not judge.joined(land, ward) or ward < max(row[:k], default=()):
                return k
        return len(row)

    def test_plans_of_lands(self):
        for land in LARGER:
            right = set(judge.plans(land))
            for rows in judge.partitions(len(land[0])):
                self.same(is_plan(land, rows), rows in right)
                self.same(plan_fault(land, rows) is None, rows in right)

    def test_one_ward_and_each_place_alone(self):
        for land in samples.TWELVES:
            every = tuple(range(12))
            self.same(plan_fault(land, tuple((k,) for k in every)), None)
            self.same(plan_fault(land, (every,)), None if judge.joined(land, every) else 0)
            self.same(plan_fault(land, tuple((k,) for k in every[:11])), 11)
            self.same(plan_fault(land, tuple((k,) for k in every[1:])), 11)

    def test_the_first_of_two_faults(self):
        land = samples.path((1,) * 6)
        self.same(plan_fault(land, ((0, 1), (2, 4), (3, 3), (9,))), 1)
        self.same(plan_fault(land, ((2, 3), (0, 1), (4, 6))), 1)
        self.same(plan_fault(land, ((0, 1), (3, 4), (2, 5))), 2)
        self.same(plan_fault(land, ((0, 1), (3, 4), None, (0,))), 2)
        self.same(plan_fault(land, ((0, 1), (3, 4), (5,), (4,))), 3)


class LotsTest(Asking):

    def test_small_lands(self):
        for land in SMALL:
            for lot in judge.lots_within(judge.places_of(land)):
                self.ask(land, lot)

    def test_larger_lands(self):
        for land in LARGER:
            for lot in judge.lots_within(judge.places_of(land))[::3]:
                self.ask(land, lot)

    def ask(self, land, lot):
        self.same(hangs(land, lot), judge.joined(land, lot))
        self.same(pieces(land, lot), judge.pieces(land, lot))
        self.same(cut_places(land, lot), judge.cut_places(land, lot))
        self.same(folk_of(land, lot), judge.folk_of(land, lot))

    def test_neighbours(self):
        for land in (*SMALL, *LARGER, *samples.TWELVES):
            for place in judge.places_of(land):
                wanted = tuple(other for other in judge.places_of(land) if judge.linked(land, place, other))
                self.same(neighbours(land, place), wanted)

    def test_pieces_are_the_greatest_lots_that_hang_together(self):
        for land in SMALL:
            lots = judge.lots_within(judge.places_of(land))
            for lot in lots:
                joined = [part for part in judge.lots_within(lot) if judge.joined(land, part)]
                wanted = [part for part in joined if not any(set(part) < set(other) for other in joined)]
                self.same(pieces(land, lot), tuple(wanted))

    def test_one_place(self):
        for land in samples.TWELVES:
            self.same(hangs(land, (7,)), True)
            self.same(pieces(land, (7,)), ((7,),))
            self.same(cut_places(land, (7,)), ())
            self.same(folk_of(land, (7,)), land[0][7])

    def test_a_lot_in_more_pieces(self):
        land = ((1, 2, 4, 8, 16, 32), ((0, 1), (1, 2), (3, 4)))
        every = (0, 1, 2, 3, 4, 5)
        self.same(hangs(land, every), False)
        self.same(pieces(land, every), ((0, 1, 2), (3, 4), (5,)))
        self.same(cut_places(land, every), (1,))
        self.same(pieces(land, (0, 2, 3, 5)), ((0,), (2,), (3,), (5,)))
        self.same(cut_places(land, (0, 2, 3, 5)), ())
        self.same(pieces(((1,) * 4, ((0, 3), (1, 2))), (0, 1, 2, 3)), ((0, 3), (1, 2)))
        self.same(folk_of(land, every), 63)

    def test_all_of_twelve_places(self):
        every = tuple(range(12))
        self.same(cut_places(samples.path((1,) * 12), every), every[1:11])
        self.same(cut_places(samples.star((1,) * 12), every), (0,))
        self.same(cut_places(samples.ring_of((1,) * 12), every), ())
        self.same(pieces(samples.star((1,) * 12), every[1:]), tuple((k,) for k in every[1:]))
        self.same(folk_of(samples.full((1000000,) * 12), every), 12000000)


class PlansTest(Asking):

    def test_all_plans_of_small_lands(self):
        for land in SMALL:
            for plan in judge.plans(land):
                self.ask(land, plan)

    def test_plans_of_larger_lands(self):
        for land in LARGER:
            for plan in judge.plans(land)[::11]:
                self.ask(land, plan)

    def ask(self, land, plan):
        seat = {place: k for k, ward in enumerate(plan) for place in ward}
        cut = tuple(border for border in land[1] if seat[border[0]] != seat[border[1]])
        near = {tuple(sorted((seat[low], seat[high]))) for low, high in cut}
        folk = [judge.folk_of(land, ward) for ward in plan]
        self.same(cut_borders(land, plan), cut)
        self.same(near_wards(land, plan), tuple(sorted(near)))
        self.same([ward_of(land, plan, place) for place in sorted(seat)], [seat[place] for place in sorted(seat)])
        self.same(spread(land, plan), max(folk) - min(folk))

    def test_one_ward(self):
        land = samples.full((9, 0, 4))
        self.same(cut_borders(land, ((0, 1, 2),)), ())
        self.same(near_wards(land, ((0, 1, 2),)), ())
        self.same(ward_of(land, ((0, 1, 2),), 2), 0)
        self.same(spread(land, ((0, 1, 2),)), 0)

    def test_each_place_alone(self):
        for land in samples.TWELVES:
            plan = tuple((k,) for k in range(12))
            self.same(cut_borders(land, plan), land[1])
            self.same(near_wards(land, plan), land[1])
            self.same(ward_of(land, plan, 11), 11)
            self.same(spread(land, plan), max(land[0]) - min(land[0]))


class PlanOfTest(Asking):

    def test_rows_of_small_lands(self):
        worths = (0, -5, 10 ** 89, 3)
        for land in SMALL:
            right = set(judge.plans(land))
            for row in product(worths[:len(land[0])], repeat=len(land[0])):
                wards = {}
                for place, worth in enumerate(row):
                    wards[worth] = wards.get(worth, ()) + (place,)
                plan = tuple(sorted(wards.values()))
                if plan in right:
                    self.same(plan_of(land, row), plan)
                else:
                    self.raises(Refused, plan_of, land, row)

    def test_rows_that_tell_plans(self):
        draw = random.Random(6)
        for land in LARGER:
            for plan in judge.plans(land)[::17]:
                worths = draw.sample(range(-20, 20), len(plan))
                row = tuple(worth for place in judge.places_of(land)
                            for ward, worth in zip(plan, worths, strict=True) if place in ward)
                self.same(plan_of(land, row), plan)

    def test_equal_negative_and_great_integers(self):
        land = samples.path((1, 2, 3, 4))
        self.same(plan_of(land, (0, 0, 0, 0)), ((0, 1, 2, 3),))
        self.same(plan_of(land, (3, 2, 1, 0)), ((0,), (1,), (2,), (3,)))
        self.same(plan_of(land, (-1, -1, 1, 1)), ((0, 1), (2, 3)))
        self.same(plan_of(land, (-2, -1, -1, 10 ** 90 - 1)), ((0,), (1, 2), (3,)))
        self.same(plan_of(land, (10 ** 89, 10 ** 89, -(10 ** 89), 10 ** 89 + 1)), ((0, 1), (2,), (3,)))
        self.same(plan_of(land, (2 ** 61, 1, 1, 2 ** 61 - 1)), ((0,), (1, 2), (3,)))

    def test_wards_that_do_not_hang_together(self):
        self.raises(Refused, plan_of, samples.empty((0, 0)), (1, 1))
        self.same(plan_of(samples.empty((0, 0)), (1, 2)), ((0,), (1,)))
        self.raises(Refused, plan_of, samples.path((1,) * 12), (1,) * 5 + (2,) + (1,) * 6)
        self.raises(Refused, plan_of, samples.LAND, (0, 1, 2, 1, 2))

    def test_no_rows(self):
        for row in samples.NO_ROWS:
            self.raises(InvalidPart, plan_of, samples.LAND, row)


class TurnedTest(Asking):

    def test_all_orders_of_small_lands(self):
        for land in SMALL:
            for order in permutations(judge.places_of(land)):
                self.same(turned(land, order), self.led(land, order))

    def led(self, land, order):
        """The turned land, by asking of each two of its places what they were."""
        many = len(order)
        borders = [(a, b) for a in range(many) for b in range(a + 1, many) if judge.linked(land, order[a], order[b])]
        return (tuple(land[0][place] for place in order), tuple(borders))

    def test_larger_lands(self):
        draw = random.Random(5)
        for land in (*LARGER, *samples.TWELVES):
            order = tuple(draw.sample(range(len(land[0])), len(land[0])))
            self.same(turned(land, order), self.led(land, order))

    def test_plans_are_led_along(self):
        draw = random.Random(8)
        for land in (*SMALL, *LARGER):
            for plan in judge.plans(land)[::7]:
                order = tuple(draw.sample(range(len(land[0])), len(land[0])))
                wanted = sorted(tuple(k for k, place in enumerate(order) if place in ward) for ward in plan)
                self.same(turned_plan(land, plan, order), tuple(wanted))
                self.same(is_plan(turned(land, order), turned_plan(land, plan, order)), True)

    def test_a_plan_by_hand(self):
        self.same(turned_plan(samples.LAND, ((0, 1), (2,), (3, 4)), (1, 2, 0, 3, 4)), ((0, 2), (1,), (3, 4)))
        self.same(turned_plan(samples.LAND, ((0,), (1, 2), (3, 4)), (4, 3, 2, 1, 0)), ((0, 1), (2, 3), (4,)))
        self.same(turned_plan(samples.LAND, ((0,), (1, 2), (3, 4)), (3, 4, 0, 1, 2)), ((0, 1), (2,), (3, 4)))

    def test_no_orders(self):
        for order in samples.NO_TURNS:
            self.raises(InvalidPart, turned, samples.LAND, order)
            self.raises(InvalidPart, turned_plan, samples.LAND, samples.PLAN, order)
            self.raises(InvalidPlan, turned_plan, samples.LAND, (), order, field="index", worth=0)
            self.raises(InvalidLand, turned_plan, (), (), order, field="place", worth=())


class FactLTest(Asking):
    """Fact L, on lands of all kinds."""

    def test_a_place_is_left_out_exactly_if_it_is_no_cut_place(self):
        for land in (*SMALL, *LARGER):
            for lot in judge.lots_within(judge.places_of(land)):
                if len(lot) > 1 and hangs(land, lot):
                    cut = cut_places(land, lot)
                    loose = tuple(place for place in lot if hangs(land, judge.without(lot, place)))
                    self.same(tuple(place for place in lot if place not in cut), loose)
                    self.assertGreaterEqual(len(loose), 2)

    def test_of_twelve_places_two_can_be_left_out(self):
        every = tuple(range(12))
        for land in samples.TWELVES:
            if hangs(land, every):
                cut = cut_places(land, every)
                self.assertLessEqual(len(cut), 10)
                for place in every:
                    self.same(hangs(land, judge.without(every, place)), place not in cut)

    def test_turned_there_and_back(self):
        draw = random.Random(3)
        for land in (*SMALL, *LARGER, *samples.TWELVES):
            order = tuple(draw.sample(range(len(land[0])), len(land[0])))
            back = tuple(order.index(place) for place in range(len(order)))
            there = turned(land, order)
            self.same(turned(there, back), land)
            for plan in judge.plans(land)[::29] if len(land[0]) < 9 else ():
                self.same(turned_plan(there, turned_plan(land, plan, order), back), plan)

    def test_all_that_is_told_goes_along(self):
        draw = random.Random(4)
        for land in (*SMALL[::3], *LARGER):
            order = tuple(draw.sample(range(len(land[0])), len(land[0])))
            there = turned(land, order)
            where = {place: k for k, place in enumerate(order)}
            for lot in judge.lots_within(judge.places_of(land))[::5]:
                self.lot_goes_along(land, there, where, lot)
            for plan in judge.plans(land)[::23]:
                self.plan_goes_along(land, there, where, plan, turned_plan(land, plan, order))

    def lot_goes_along(self, land, there, where, lot):
        led = tuple(sorted(where[place] for place in lot))
        self.same(hangs(there, led), hangs(land, lot))
        self.same(folk_of(there, led), folk_of(land, lot))
        self.same(pieces(there, led), tuple(sorted(tuple(sorted(where[place] for place in piece))
                                                   for piece in pieces(land, lot))))
        self.same(cut_places(there, led), tuple(sorted(where[place] for place in cut_places(land, lot))))
        for place in lot:
            self.same(neighbours(there, where[place]), tuple(sorted(where[k] for k in neighbours(land, place))))

    def plan_goes_along(self, land, there, where, plan, led):
        self.same(spread(there, led), spread(land, plan))
        cut = sorted(tuple(sorted((where[low], where[high]))) for low, high in cut_borders(land, plan))
        self.same(cut_borders(there, led), tuple(cut))
        self.assertEqual(len(near_wards(there, led)), len(near_wards(land, plan)))
        for place in judge.places_of(land):
            ward = plan[ward_of(land, plan, place)]
            self.same(led[ward_of(there, led, where[place])], tuple(sorted(where[k] for k in ward)))


if __name__ == "__main__":
    unittest.main()
