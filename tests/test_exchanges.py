"""Promise [11]: exchanges of a place between two wards, and the closed lots that they lead through."""

import random
import time
import unittest
from itertools import permutations, product

from tests import judge, judge_exchanges, samples
from tests.asking import Asking
from wardsdrawn.errors import InvalidBounds, InvalidCount, InvalidLand, InvalidPlan, Refused, TooMany
from wardsdrawn.exchanges import closed_lot, closed_lots, fits, is_closed, is_row, led, near

SMALL = judge.lands((4, 1)) + judge.lands((2, 0, 5)) + judge.lands((3, 1, 0, 2))[::2]
LARGER = [samples.drawn_land(seed, 5 + seed % 2, 25 + 8 * (seed % 9)) for seed in range(14)]
SEVEN = [samples.drawn_land(seed, 7, 35) for seed in range(2)]
HALVES = ((0, 1, 2), (3, 4))
ONE = ((0, 1, 2, 3, 4),)
TWELVE = samples.full((1,) * 12)
ALONE = tuple((k,) for k in range(12))
# Two wards of it fit from low on exactly if the lesser one has low at least: 2,048 less low of the plans.
POWERS = samples.full(tuple(1 << k for k in range(12)))
POWERS_HALVES = (tuple(range(11)), (11,))
# Of its plans of three wards 2,000 fit 18 and 96, and 2,001 fit 19 and 99.
NINE = samples.full((28, 13, 25, 29, 14, 2, 9, 17, 16))
SECONDS = 10


def bounds_of(land):
    """Some bounds for a land, from narrow to wide."""
    whole = sum(land[0])
    low = whole // 4
    return [(0, whole), (low, whole - low), (whole // 2 - 1 if whole > 1 else 0, whole // 2 + 1), (1, whole + 9),
            (0, low), (whole, whole)]


CASES = [(land, *bounds) for land in (*SMALL, *LARGER[:10]) for bounds in bounds_of(land)]
CASES += [(land, *bounds) for land in (*LARGER[10:], *SEVEN) for bounds in bounds_of(land)[:3]]
NEAR = [(land, low, high, judge_exchanges.near_of(land, low, high)) for land, low, high in CASES]


class DocumentTest(Asking):
    """The examples of the document."""

    def test_examples(self):
        isle, halves = ((5, 2, 0, 4, 7), ((0, 1), (0, 2), (1, 2), (2, 3), (3, 4))), ((0, 1, 2), (3, 4))
        self.same(
            [near(isle, halves, 6, 12), fits(isle, ((0,), (1, 2, 3, 4)), 6, 12), len(closed_lots(isle, 2, 6, 12))],
            [(((0, 1), (2, 3, 4)), ((0, 1, 2, 3), (4,))), False, 1],
        )
        self.same(
            led(isle, halves, ((0,), (1, 2, 3, 4)), 0, 99),
            ("yes", (((0, 1, 2), (3, 4)), ((0, 1), (2, 3, 4)), ((0,), (1, 2, 3, 4)))),
        )


class FitsTest(Asking):

    def test_all_plans(self):
        for land, low, high in CASES:
            for plan in judge.plans(land)[::3]:
                self.same(fits(land, plan, low, high), judge_exchanges.fits(land, plan, low, high))

    def test_at_the_bounds(self):
        self.same([fits(samples.LAND, HALVES, *bounds) for bounds in ((7, 11), (8, 11), (7, 10), (0, 11), (0, 10),
                                                                      (7, 10 ** 89), (11, 11), (0, 0))],
                  [True, False, False, True, False, True, False, False])
        self.same(fits(samples.empty((0,) * 12), ALONE, 0, 0), True)
        self.same(fits(samples.full((1000000,) * 12), (tuple(range(12)),), 12000000, 12000000), True)
        self.same(fits(samples.full((1000000,) * 12), (tuple(range(12)),), 12000001, 12000001), False)


class NearTest(Asking):

    def test_plans_that_fit(self):
        for land, low, high, around in NEAR:
            for plan in list(around)[::3]:
                self.same(near(land, plan, low, high), around[plan])

    def test_plans_that_fit_or_not(self):
        for land, low, high, around in NEAR:
            for plan in judge.plans(land)[::7]:
                wanted = tuple(sorted(judge_exchanges.exchanged(land, plan) & set(around)))
                self.same(near(land, plan, low, high), wanted)

    def test_a_plan_that_does_not_fit(self):
        land = samples.path((3, 1, 1, 3))
        self.same(near(land, ((0,), (1, 2, 3)), 4, 4), (((0, 1), (2, 3)),))
        self.same(near(land, ((0,), (1, 2, 3)), 3, 4), (((0, 1), (2, 3)),))
        self.same(near(land, ((0,), (1, 2, 3)), 0, 3), ())
        # The third ward gives and takes nothing, and does not fit.
        self.same(near(land, ((0,), (1, 2), (3,)), 0, 2), ())
        self.same(near(land, ((0,), (1, 2), (3,)), 1, 4), (((0,), (1,), (2, 3)), ((0, 1), (2,), (3,))))

    def test_a_ward_keeps_a_place(self):
        self.same(near(TWELVE, ALONE, 0, 99), ())
        self.same(near(TWELVE, (tuple(range(12)),), 0, 99), ())
        self.same(near(samples.full((1, 1)), ((0,), (1,)), 0, 99), ())
        self.same(near(samples.full((1, 1, 1)), ((0,), (1, 2)), 0, 99), (((0, 1), (2,)), ((0, 2), (1,))))

    def test_what_is_left_hangs_together_and_the_place_has_a_neighbour_there(self):
        path = samples.path((1,) * 5)
        self.same(near(path, ((0, 1, 2), (3, 4)), 0, 9), (((0, 1), (2, 3, 4)), ((0, 1, 2, 3), (4,))))
        star = samples.star((1,) * 5)
        self.same(near(star, ((0, 1, 2, 3), (4,)), 0, 9), ())
        self.same(near(star, ((0, 1, 2), (3,), (4,)), 0, 9), ())
        ring = samples.ring_of((1,) * 4)
        self.same(near(ring, ((0, 1), (2, 3)), 0, 9), (((0,), (1, 2, 3)), ((0, 1, 2), (3,)), ((0, 1, 3), (2,)),
                                                       ((0, 2, 3), (1,))))

    def test_one_exchange_leads_back(self):
        for land, low, high, around in NEAR[::3]:
            for plan in list(around)[::5]:
                for other in near(land, plan, low, high):
                    self.assertIn(plan, near(land, other, low, high))
                    self.assertEqual(len(plan), len(other))
                    self.assertNotEqual(plan, other)


class ClosedLotTest(Asking):

    def test_small_lands(self):
        for land, low, high, around in NEAR:
            for plan in list(around)[::4]:
                self.same(closed_lot(land, plan, low, high), judge_exchanges.closed_lot(around, plan))

    def test_a_plan_that_does_not_fit(self):
        for land, low, high, around in NEAR[::5]:
            for plan in judge.plans(land)[::5]:
                if plan not in around:
                    self.raises(Refused, closed_lot, land, plan, low, high)

    def test_a_plan_alone(self):
        self.same(closed_lot(TWELVE, ALONE, 0, 99), (ALONE,))
        self.same(closed_lot(TWELVE, (tuple(range(12)),), 0, 99), ((tuple(range(12)),),))
        self.same(closed_lot(samples.star((1,) * 5), ((0, 1, 2), (3,), (4,)), 1, 3), (((0, 1, 2), (3,), (4,)),))

    def test_two_thousand_plans_and_one_more(self):
        lot = closed_lot(POWERS, POWERS_HALVES, 48, 4095)
        self.assertEqual(len(lot), 2000)
        self.assertEqual((lot[0], lot[-1]), (min(lot), max(lot)))
        self.same(is_closed(POWERS, 48, 4095, lot), True)
        self.same(is_closed(POWERS, 48, 4095, lot[:1000] + lot[1001:]), False)
        began = time.monotonic()
        self.raises(TooMany, closed_lot, POWERS, POWERS_HALVES, 47, 4095, field="count", worth=2000)
        self.raises(TooMany, closed_lot, POWERS, POWERS_HALVES, 0, 4095, field="count", worth=2000)
        self.assertLess(time.monotonic() - began, SECONDS)

    def test_too_many_of_each_number_of_wards(self):
        for count in range(2, 10):
            plan = tuple((k,) for k in range(count - 1)) + (tuple(range(count - 1, 12)),)
            began = time.monotonic()
            self.raises(TooMany, closed_lot, TWELVE, plan, 0, 99, field="count", worth=2000)
            self.raises(TooMany, led, TWELVE, plan, plan, 0, 99, field="count", worth=2000)
            self.assertLess(time.monotonic() - began, SECONDS)
        for count, many in ((10, 1705), (11, 66)):
            plan = tuple((k,) for k in range(count - 1)) + (tuple(range(count - 1, 12)),)
            self.assertEqual(len(closed_lot(TWELVE, plan, 0, 99)), many)


class LedTest(Asking):

    def test_small_lands(self):
        words = []
        for land, low, high, around in NEAR:
            plans = list(around)
            pairs = list(product(plans, plans))
            for plan, other in pairs[::max(1, len(pairs) // 25)]:
                answer = led(land, plan, other, low, high)
                self.same(answer, judge_exchanges.led(around, plan, other))
                words.append((answer[0], plan == other, len(plan) == len(other)))
        for kind in (("yes", True, True), ("yes", False, True), ("no", False, True), ("no", False, False)):
            self.assertGreater(words.count(kind), 50)

    def test_what_is_told_is_judged(self):
        for land, low, high, around in NEAR[::2]:
            plans = list(around)
            for plan, other in list(product(plans, plans))[::max(1, len(plans) ** 2 // 9)]:
                word, found = led(land, plan, other, low, high)
                if word == "yes":
                    self.same(is_row(land, plan, other, low, high, found), True)
                    self.same(is_row(land, other, plan, low, high, found[::-1]), True)
                else:
                    self.same(is_closed(land, low, high, found), True)
                    self.assertTrue(plan in found and other not in found)

    def test_a_plan_to_itself(self):
        self.same(led(samples.LAND, HALVES, HALVES, 6, 12), ("yes", (HALVES,)))
        self.same(led(TWELVE, ALONE, ALONE, 0, 1), ("yes", (ALONE,)))

    def test_the_least_of_the_shortest_rows(self):
        ring = samples.ring_of((1,) * 6)
        start, end = ((0, 1, 2), (3, 4, 5)), ((0, 4, 5), (1, 2, 3))
        answer = led(ring, start, end, 0, 6)
        rows = judge_exchanges.shortest_rows(judge_exchanges.near_of(ring, 0, 6), start, end)
        self.assertGreater(len(rows), 1)
        self.same(answer, ("yes", min(rows)))

    def test_plans_of_unlike_numbers_of_wards(self):
        land = samples.path((1, 1, 1))
        self.same(led(land, ((0,), (1, 2)), ((0, 1, 2),), 0, 9), ("no", (((0,), (1, 2)), ((0, 1), (2,)))))
        self.same(led(land, ((0, 1, 2),), ((0,), (1, 2)), 0, 9), ("no", (((0, 1, 2),),)))

    def test_plans_that_do_not_fit(self):
        self.raises(Refused, led, samples.LAND, ONE, HALVES, 6, 12)
        self.raises(Refused, led, samples.LAND, HALVES, ONE, 6, 12)
        self.raises(Refused, led, samples.LAND, ONE, ONE, 6, 12)
        # Refused stands ahead of TooMany.
        self.raises(Refused, led, TWELVE, (tuple(range(6)), tuple(range(6, 12))), ALONE, 2, 12)
        self.raises(TooMany, led, TWELVE, (tuple(range(6)), tuple(range(6, 12))), ALONE, 1, 12)

    def test_two_thousand_plans_and_one_more(self):
        other = ((0, 11), tuple(range(1, 11)))
        self.same(led(POWERS, POWERS_HALVES, other, 48, 4095)[0], "yes")
        began = time.monotonic()
        for there in (other, POWERS_HALVES, near(POWERS, POWERS_HALVES, 47, 4095)[0]):
            self.raises(TooMany, led, POWERS, POWERS_HALVES, there, 47, 4095, field="count", worth=2000)
        self.assertLess(time.monotonic() - began, SECONDS)

    def test_too_many_is_asked_of_the_closed_lot_of_the_first_plan_alone(self):
        many = (tuple(range(6)), tuple(range(6, 12)))
        self.same(led(TWELVE, ALONE, many, 0, 99), ("no", (ALONE,)))
        self.raises(TooMany, led, TWELVE, many, ALONE, 0, 99, field="count", worth=2000)

    def test_a_long_row(self):
        path = samples.path((1,) * 12)
        start = ((0,), (1,), (2,), tuple(range(3, 12)))
        end = (tuple(range(9)), (9,), (10,), (11,))
        word, row = led(path, start, end, 1, 12)
        self.assertEqual((word, len(row)), ("yes", 25))
        self.same(is_row(path, start, end, 1, 12, row), True)


def changed(value, others):
    """Values that come from a row or a lot by leaving out, putting in, exchanging, and another sequence."""
    found = [value[::-1], value + value[:1], value[-1:] + value, value + value, (), value[1:], value[:-1]]
    for k in range(len(value)):
        found += [value[:k] + value[k + 1:], value[:k + 1] + value[k:], value[:k] + value[k + 1:] + (value[k],)]
        for other in others:
            found += [value[:k] + (other,) + value[k + 1:], value[:k] + (other,) + value[k:],
                      tuple(sorted(value[:k] + (other,) + value[k + 1:]))]
    for other in others:
        found += [value + (other,), (other,) + value, tuple(sorted(value + (other,)))]
    return found


def other_kinds(value):
    """What is no tuple of plans, whatever the land."""
    first = value[0]
    return [list(value), [list(plan) for plan in value], tuple(list(plan) for plan in value), first, first[0],
            (first[0],), (value,), None, 0, True, "", str(value), (None,) * len(value), value + (None,), value + ((),),
            value[:-1] + (value[-1] + ((),),), (*value[:-1], value[-1][::-1]) if len(value[-1]) > 1 else (),
            (tuple(ward[::-1] for ward in first) + ((0, 0),),) + value[1:], ((first[0],),) + value[1:] + (0,),
            tuple(tuple(tuple(str(place) for place in ward) for ward in plan) for plan in value),
            tuple(tuple(tuple(bool(place) if place < 2 else place for place in ward) for ward in plan)
                  for plan in value)]


class IsRowTest(Asking):

    def test_rows_and_their_changes(self):
        draw = random.Random(3)
        judged = {True: 0, False: 0}
        for land, low, high, around in NEAR[::3]:
            plans = list(around)
            every = judge.plans(land)
            for plan in draw.sample(plans, min(3, len(plans))):
                other = draw.choice(judge_exchanges.closed_lot(around, plan))
                row = led(land, plan, other, low, high)[1]
                others = draw.sample(every, min(3, len(every))) + draw.sample(plans, min(3, len(plans)))
                for value in (row, *changed(row, others)):
                    wanted = judge_exchanges.is_row(around, plan, other, value)
                    self.same(is_row(land, plan, other, low, high, value), wanted)
                    judged[wanted] += 1
                for value in other_kinds(row):
                    self.same(is_row(land, plan, other, low, high, value), False)
        self.assertGreater(min(judged.values()), 100)

    def test_walks_of_whatever_length(self):
        draw = random.Random(4)
        for land, low, high, around in NEAR[::4]:
            for plan in list(around)[::9]:
                row = [plan]
                for _ in range(20):
                    row.append(draw.choice(around[row[-1]] or (row[-1],)))
                moves = bool(around[plan])
                self.same(is_row(land, plan, row[-1], low, high, tuple(row)), moves)
                self.same(is_row(land, plan, row[7], low, high, tuple(row[:8])), moves)
                self.same(is_row(land, row[3], row[7], low, high, tuple(row[3:8])), moves)

    def test_from_a_plan_to_itself(self):
        there = ((0, 1), (2, 3, 4))
        self.same(is_row(samples.LAND, HALVES, HALVES, 6, 12, (HALVES,)), True)
        self.same(is_row(samples.LAND, HALVES, HALVES, 6, 12, (HALVES, there, HALVES)), True)
        self.same(is_row(samples.LAND, HALVES, HALVES, 6, 12, (HALVES, there, HALVES, there, HALVES)), True)
        self.same(is_row(samples.LAND, HALVES, HALVES, 6, 12, (HALVES, HALVES)), False)
        self.same(is_row(samples.LAND, HALVES, HALVES, 6, 12, (HALVES, there)), False)
        self.same(is_row(samples.LAND, HALVES, HALVES, 6, 12, (there,)), False)
        self.same(is_row(samples.LAND, HALVES, HALVES, 6, 12, ()), False)

    def test_plans_that_do_not_fit_have_no_row(self):
        self.same(is_row(samples.LAND, ONE, ONE, 6, 12, (ONE,)), False)
        self.same(is_row(samples.LAND, ONE, ONE, 6, 18, (ONE,)), True)
        far = ((0,), (1, 2, 3, 4))
        between = ((0, 1), (2, 3, 4))
        self.same(is_row(samples.LAND, HALVES, far, 0, 99, (HALVES, between, far)), True)
        self.same(is_row(samples.LAND, HALVES, far, 6, 12, (HALVES, between, far)), False)
        self.same(is_row(samples.LAND, far, far, 6, 12, (HALVES,)), False)

    def test_each_plan_is_one_exchange_apart_from_the_one_ahead(self):
        path = samples.path((4, 1, 1, 4))
        row = (((0,), (1, 2, 3)), ((0, 1), (2, 3)), ((0, 1, 2), (3,)))
        self.same(is_row(path, row[0], row[2], 4, 6, row), True)
        self.same(is_row(path, row[0], row[2], 4, 6, (row[0], row[2])), False)
        self.same(is_row(path, row[0], row[2], 4, 5, row), False)

    def test_two_thousand_plans(self):
        lot = closed_lot(POWERS, POWERS_HALVES, 48, 4095)
        there = near(POWERS, lot[0], 48, 4095)[0]
        row = (lot[0], there) * 1000
        began = time.monotonic()
        self.same(is_row(POWERS, lot[0], there, 48, 4095, row), True)
        self.same(is_row(POWERS, lot[0], there, 48, 4095, row[:999] + row[1000:]), False)
        self.assertLess(time.monotonic() - began, SECONDS)


class IsClosedTest(Asking):

    def test_closed_lots_and_their_changes(self):
        draw = random.Random(5)
        judged = {True: 0, False: 0}
        for land, low, high, around in NEAR[::3]:
            every = judge.plans(land)
            for plan in draw.sample(list(around), min(2, len(around))):
                lot = judge_exchanges.closed_lot(around, plan)
                others = draw.sample(every, min(3, len(every)))
                for value in (lot, *changed(lot, others)):
                    wanted = judge_exchanges.is_closed(around, value)
                    self.same(is_closed(land, low, high, value), wanted)
                    judged[wanted] += 1
                for value in other_kinds(lot):
                    self.same(is_closed(land, low, high, value), False)
        self.assertGreater(min(judged.values()), 80)

    def test_some_closed_lots_together(self):
        draw = random.Random(6)
        for land, low, high, around in NEAR:
            lots = sorted({judge_exchanges.closed_lot(around, plan) for plan in around})
            for many in {1, 2, 3, len(lots)}:
                if 0 < many <= len(lots):
                    value = tuple(sorted(plan for lot in draw.sample(lots, many) for plan in lot))
                    self.same(is_closed(land, low, high, value), True)
                    for k in range(0, len(value), 1 + len(value) // 4):
                        less = value[:k] + value[k + 1:]
                        self.same(is_closed(land, low, high, less), judge_exchanges.is_closed(around, less))

    def test_of_unlike_numbers_of_wards(self):
        one, two, three = ((0, 1, 2),), (((0,), (1, 2)), ((0, 1), (2,))), ((0,), (1,), (2,))
        land = samples.path((1, 1, 1))
        self.same(is_closed(land, 0, 9, tuple(sorted((one, three)))), True)
        self.same(is_closed(land, 0, 9, tuple(sorted((*two, one, three)))), True)
        self.same(is_closed(land, 0, 9, two), True)
        self.same(is_closed(land, 0, 9, two[::-1]), False)
        self.same(is_closed(land, 0, 9, two[:1]), False)
        self.same(is_closed(land, 0, 9, two[:1] + two), False)
        self.same(is_closed(land, 0, 9, (one, two[0])), False)
        self.same(is_closed(land, 0, 9, ()), False)
        self.same(is_closed(land, 2, 9, (one,)), True)
        self.same(is_closed(land, 4, 9, (one,)), False)
        self.same(is_closed(land, 0, 1, (three,)), True)

    def test_all_tuples_of_plans_of_a_path(self):
        land = samples.path((1, 2, 1))
        plans = judge.plans(land)
        for low, high in ((0, 9), (1, 3), (2, 4), (0, 2)):
            around = judge_exchanges.near_of(land, low, high)
            for many in range(4):
                for value in permutations(plans, many):
                    self.same(is_closed(land, low, high, value), judge_exchanges.is_closed(around, value))


class ClosedLotsTest(Asking):

    def test_small_lands(self):
        for land, low, high, around in NEAR:
            for count in range(1, len(land[0]) + 1):
                self.same(closed_lots(land, count, low, high), judge_exchanges.closed_lots(around, count))

    def test_no_plan_fits(self):
        self.same(closed_lots(samples.LAND, 1, 0, 17), ())
        self.same(closed_lots(samples.LAND, 5, 1, 99), ())
        self.same(closed_lots(samples.LAND, 2, 10 ** 89, 10 ** 89), ())
        self.same(closed_lots(samples.empty((1,) * 9), 8, 0, 99), ())
        self.same(closed_lots(samples.empty((1,) * 9), 9, 0, 99), ((ALONE[:9],),))

    def test_more_closed_lots_than_one(self):
        path = samples.path((2, 1, 1, 2))
        self.same(closed_lots(path, 3, 0, 2), ((((0,), (1, 2), (3,)),),))
        apart = ((1,) * 4, ((0, 1), (2, 3)))
        self.same(closed_lots(apart, 2, 0, 4), ((((0, 1), (2, 3)),),))
        self.same(closed_lots(apart, 3, 0, 4), ((((0,), (1,), (2, 3)),), (((0, 1), (2,), (3,)),)))
        ring = samples.ring_of((1,) * 4)
        self.same(closed_lots(ring, 2, 2, 2), ((((0, 1), (2, 3)),), (((0, 3), (1, 2)),)))

    def test_nine_places_end_soon(self):
        for land in (samples.full((1,) * 9), samples.empty((1,) * 9), samples.ring_of((1,) * 9), NINE,
                     samples.drawn_land(1, 9, 50), samples.star((1,) * 9)):
            for count in range(1, 10):
                for low, high in ((0, 10 ** 89), (1, 5), (2, 3)):
                    began = time.monotonic()
                    self.lots_or_too_many(land, count, low, high)
                    self.assertLess(time.monotonic() - began, SECONDS)

    def lots_or_too_many(self, land, count, low, high):
        try:
            lots = closed_lots(land, count, low, high)
        except TooMany as error:
            self.assertEqual(error.count, 2000)
            self.assertIn(count, range(3, 7))
            return
        self.assertEqual(lots, tuple(sorted(lots)))
        for lot in lots:
            self.same(is_closed(land, low, high, lot), True)
            self.same(closed_lot(land, lot[0], low, high), lot)

    def test_two_thousand_plans_and_one_more(self):
        found = [rows for rows in judge.partitions(9) if len(rows) == 3]
        for low, high, many in ((18, 96, 2000), (19, 99, 2001), (0, 999, 3025)):
            plans = [rows for rows in found if judge_exchanges.fits(NINE, rows, low, high)]
            self.assertEqual(len(plans), many)
            if many == 2000:
                lots = closed_lots(NINE, 3, low, high)
                self.same(sorted(plan for lot in lots for plan in lot), sorted(plans))
            else:
                self.raises(TooMany, closed_lots, NINE, 3, low, high, field="count", worth=2000)

    def test_more_than_nine_places(self):
        for many in (10, 11, 12):
            for land in (samples.full((1,) * many), samples.empty((1,) * many), samples.path((1,) * many)):
                for count in (1, 2, 5, many):
                    began = time.monotonic()
                    self.raises(TooMany, closed_lots, land, count, 0, 99, field="count", worth=many)
                    self.raises(TooMany, closed_lots, land, count, 98, 99, field="count", worth=many)
                    self.raises(InvalidCount, closed_lots, land, many + 1, 0, 99)
                    self.raises(InvalidBounds, closed_lots, land, count, 9, 8)
                    self.assertLess(time.monotonic() - began, SECONDS)
        self.assertEqual(len(closed_lots(samples.full((1,) * 9), 9, 0, 99)), 1)

    def test_counts_that_are_none(self):
        for count in samples.NO_WARD_COUNTS:
            self.raises(InvalidCount, closed_lots, samples.LAND, count, 0, 99)
            self.raises(InvalidCount, closed_lots, samples.LAND, count, 9, 0)
            self.raises(InvalidLand, closed_lots, (), count, 9, 0, field="place", worth=())


class WrongExchangesTest(Asking):

    def test_bounds_that_are_none(self):
        plan, land = HALVES, samples.LAND
        for call, ahead, behind in ((fits, (land, plan), ()), (near, (land, plan), ()), (closed_lot, (land, plan), ()),
                                    (led, (land, plan, plan), ()), (is_row, (land, plan, plan), ((),)),
                                    (is_closed, (land,), ((),)), (closed_lots, (land, 2), ())):
            for low in samples.NO_LOWS_BELOW_HIGH:
                self.raises(InvalidBounds, call, *ahead, low, 12, *behind)
            for high in samples.NO_HIGHS:
                self.raises(InvalidBounds, call, *ahead, 6, high, *behind)
            self.raises(InvalidBounds, call, *ahead, 1, 0, *behind)

    def test_plans_that_are_none(self):
        for value, index in samples.NO_PLANS:
            for call in (fits, near, closed_lot):
                self.raises(InvalidPlan, call, samples.LAND, value, 6, 5, field="index", worth=index)
            for call, more in ((led, ()), (is_row, (None,))):
                self.raises(InvalidPlan, call, samples.LAND, value, (), 6, 12, *more, field="index", worth=index)
                self.raises(InvalidPlan, call, samples.LAND, HALVES, value, 6, 5, *more, field="index", worth=index)


class FactETest(Asking):
    """Fact E."""

    def test_a_row_exactly_if_no_closed_lot_has_the_first_and_not_the_other(self):
        for land, low, high, around in NEAR[::4]:
            lots = [lot for count in range(1, len(land[0]) + 1) for lot in closed_lots(land, count, low, high)]
            plans = list(around)
            for plan, other in list(product(plans, plans))[::max(1, len(plans) ** 2 // 40)]:
                parted = any(plan in lot and other not in lot for lot in lots)
                self.same(led(land, plan, other, low, high)[0], "no" if parted else "yes")

    def test_each_plan_that_fits_is_in_just_one_closed_lot(self):
        for land, low, high, around in NEAR:
            for count in range(1, len(land[0]) + 1):
                lots = closed_lots(land, count, low, high)
                told = sorted(plan for lot in lots for plan in lot)
                self.same(told, sorted(plan for plan in around if len(plan) == count))
                self.assertTrue(all(is_closed(land, low, high, lot) for lot in lots))


if __name__ == "__main__":
    unittest.main()
