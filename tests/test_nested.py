"""Promise [15]: shires that plans cut or keep, and lands bundled by them."""

import random
import time
import unittest
from itertools import product

from tests import judge, judge_nested, samples
from tests.asking import Asking
from wardsdrawn.errors import InvalidBounds, InvalidCount, InvalidPart, InvalidPlan, Refused
from wardsdrawn.lands import is_plan, land_fault
from wardsdrawn.nested import bundled, common_lots, cut_shires, fewest_cut, is_barred, is_nested

LAND = ((2, 2, 2, 2, 2, 2), ((0, 1), (0, 3), (1, 2), (1, 4), (2, 5), (3, 4), (4, 5)))
SHIRES = ((0, 1, 2), (3, 4, 5))
SMALL = [*judge.lands((4, 1)), *judge.lands((2, 0, 5)), *judge.lands((3, 1, 0, 2))[::6], LAND,
         samples.full((1, 1, 1, 1, 1)), *[samples.drawn_land(seed, 5 + seed % 2, 35 + 9 * seed) for seed in range(6)]]
NINE = samples.full((1,) * 9)
SECONDS = 10


def some(rows, most):
    return rows[::max(1, len(rows) // most)]


def bounds_of(land):
    """Some bounds for a land, from wide to narrow."""
    whole = sum(land[0])
    return [(0, whole), (whole // 4, whole - whole // 4), (whole // 3, whole // 3 + 1), (0, 10 ** 89)]


def lots_of(shires):
    """All lots of indexes of shires, () too."""
    return [(), *judge.lots_within(tuple(range(len(shires))))]


class DocumentTest(Asking):
    """The examples of the document."""

    def test_examples(self):
        self.same(
            [cut_shires(LAND, ((0, 3), (1, 2, 4, 5)), SHIRES), common_lots(LAND, ((0, 3), (1, 2, 4, 5)), SHIRES),
             is_nested(LAND, ((0, 1), (2,), (3, 4, 5)), SHIRES)],
            [(0, 1), ((0,), (1, 2), (3,), (4, 5)), True],
        )
        self.same(
            [fewest_cut(LAND, SHIRES, 2, 6, 6), fewest_cut(LAND, SHIRES, 3, 4, 4),
             is_barred(LAND, SHIRES, (0,), 3, 4, 4), bundled(LAND, SHIRES, (1,))],
            [((), ((0, 1, 2), (3, 4, 5))), ((0, 1), ((0, 1), (2, 5), (3, 4))), True,
             (((2, 2, 2, 6), ((0, 1), (0, 3), (1, 2), (1, 3), (2, 3))), ((0,), (1,), (2,), (3, 4, 5)))],
        )


class CutTest(Asking):

    def test_small_lands(self):
        words = {True: 0, False: 0}
        for land in SMALL:
            plans = some(judge.plans(land), 12)
            for plan, other in product(plans, plans):
                self.same(cut_shires(land, plan, other), judge_nested.cut_shires(plan, other))
                self.same(common_lots(land, plan, other), judge_nested.common_lots(plan, other))
                self.same(is_nested(land, plan, other), judge_nested.is_nested(plan, other))
                words[is_nested(land, plan, other)] += plan != other
        self.assertGreater(min(words.values()), 100)

    def test_shires_of_one_place_each_and_one_of_all(self):
        for land in SMALL:
            every = judge.places_of(land)
            alone = tuple((place,) for place in every)
            for plan in some(judge.plans(land), 6):
                self.same(cut_shires(land, plan, alone), ())
                self.same(common_lots(land, plan, alone), alone)
                self.same(is_nested(land, alone, plan), True)
                self.same(is_nested(land, plan, alone), plan == alone)
                if judge.joined(land, every):
                    self.same(cut_shires(land, plan, (every,)), (0,) if len(plan) > 1 else ())
                    self.same(common_lots(land, plan, (every,)), plan)
                    self.same(is_nested(land, plan, (every,)), True)
                    self.same(is_nested(land, (every,), plan), plan == (every,))

    def test_twelve_places(self):
        land = samples.full((1,) * 12)
        halves, thirds = (tuple(range(6)), tuple(range(6, 12))), tuple(tuple(range(k, k + 4)) for k in (0, 4, 8))
        self.same(cut_shires(land, thirds, halves), (0, 1))
        self.same(cut_shires(land, halves, thirds), (1,))
        self.same(common_lots(land, halves, thirds), ((0, 1, 2, 3), (4, 5), (6, 7), (8, 9, 10, 11)))
        self.same(is_nested(land, halves, thirds), False)
        self.same(is_nested(land, tuple((k,) for k in range(12)), thirds), True)
        self.same(is_nested(land, tuple((k, k + 1) for k in range(0, 12, 2)), halves), True)

    def test_lots_in_common_are_ascending(self):
        land = samples.full((1,) * 6)
        self.same(common_lots(land, ((0, 5), (1, 2, 3, 4)), ((0, 4), (1, 5), (2, 3))),
                  ((0,), (1,), (2, 3), (4,), (5,)))

    def test_a_ward_and_a_shire_may_have_apart_places_in_common(self):
        ring = samples.ring_of((1,) * 6)
        self.same(common_lots(ring, ((0, 1, 2, 3, 4), (5,)), ((0, 4, 5), (1, 2, 3))), ((0, 4), (1, 2, 3), (5,)))

    def test_no_shires(self):
        for shires, index in samples.NO_PLANS:
            for call in (cut_shires, common_lots):
                self.raises(InvalidPlan, call, samples.LAND, samples.PLAN, shires, field="index", worth=index)


class BundledTest(Asking):

    def test_small_lands(self):
        for land in SMALL:
            for shires in some(judge.plans(land), 10):
                for lot in lots_of(shires):
                    wanted = judge_nested.bundled(land, shires, lot)
                    if len(wanted[1]) < 2:
                        self.raises(Refused, bundled, land, shires, lot)
                    else:
                        found = bundled(land, shires, lot)
                        self.same(found, wanted)
                        self.same(land_fault(found[0]), None)

    def test_nothing_is_bundled(self):
        alone = tuple((k,) for k in range(6))
        self.same(bundled(LAND, SHIRES, ()), (LAND, alone))
        self.same(bundled(LAND, alone, ()), (LAND, alone))
        self.same(bundled(LAND, alone, (0, 3, 5)), (LAND, alone))
        self.same(bundled(LAND, (tuple(range(6)),), ()), (LAND, alone))

    def test_all_shires(self):
        self.same(bundled(LAND, SHIRES, (0, 1)), (((6, 6), ((0, 1),)), SHIRES))
        apart = samples.empty((1, 2))
        self.same(bundled(apart, ((0,), (1,)), (0, 1)), (apart, ((0,), (1,))))

    def test_fewer_than_two_places_left(self):
        self.raises(Refused, bundled, LAND, (tuple(range(6)),), (0,))
        self.raises(Refused, bundled, samples.full((1, 1)), ((0, 1),), (0,))
        self.raises(InvalidPart, bundled, LAND, (tuple(range(6)),), (0, 1))

    def test_folk_beyond_that_of_a_land(self):
        land = samples.full((1000000,) * 12)
        shires = (tuple(range(11)), (11,))
        found, rows = bundled(land, shires, (0, 1))
        self.same((found, rows), (((11000000, 1000000), ((0, 1),)), shires))
        self.same(land_fault(found), (0, 0))
        self.same(bundled(land, ((0, 1), tuple(range(2, 12))), (0,))[0][0], (2000000,) + (1000000,) * 10)

    def test_the_sequence_is_that_of_the_first_places(self):
        path = samples.ring_of((1, 2, 4, 8, 16, 32))
        self.same(bundled(path, ((0, 5), (1, 2), (3, 4)), (0, 2)),
                  (((33, 2, 4, 24), ((0, 1), (0, 3), (1, 2), (2, 3))), ((0, 5), (1,), (2,), (3, 4))))

    def test_no_lot(self):
        for lot in samples.NO_SHIRE_LOTS:
            self.raises(InvalidPart, bundled, LAND, SHIRES, lot)
            self.raises(InvalidPart, is_barred, LAND, SHIRES, lot, 2, 6, 6)


class FewestCutTest(Asking):

    def test_small_lands(self):
        many = {"none": 0, "kept": 0, "cut": 0}
        for land in SMALL:
            for low, high in bounds_of(land):
                for count in range(1, 7):
                    plans = judge_nested.fitting(land, count, low, high)
                    for shires in some(judge.plans(land), 4):
                        found = fewest_cut(land, shires, count, low, high)
                        self.same(found, judge_nested.fewest_cut(plans, shires))
                        many["none" if found is None else "cut" if found[0] else "kept"] += 1
        self.assertGreater(min(many.values()), 100)

    def test_shires_of_one_place_each_and_one_of_all(self):
        alone = tuple((k,) for k in range(6))
        self.same(fewest_cut(LAND, alone, 2, 6, 6), ((), ((0, 1, 2), (3, 4, 5))))
        self.same(fewest_cut(LAND, (tuple(range(6)),), 2, 6, 6), ((0,), ((0, 1, 2), (3, 4, 5))))
        self.same(fewest_cut(LAND, (tuple(range(6)),), 1, 0, 99), ((), (tuple(range(6)),)))

    def test_the_least_lot_and_the_least_plan(self):
        full = samples.full((1,) * 6)
        pairs = ((0, 1), (2, 3), (4, 5))
        # Two wards of three places cut one of three shires: any of them, in two ways at least.
        self.same(fewest_cut(full, pairs, 2, 3, 3), ((0,), ((0, 2, 3), (1, 4, 5))))
        self.same(fewest_cut(full, ((0, 1, 2), (3,), (4, 5)), 2, 2, 4), ((), ((0, 1, 2), (3, 4, 5))))
        ring = samples.ring_of((1,) * 6)
        self.same(fewest_cut(ring, ((0, 5), (1, 2), (3, 4)), 2, 3, 3), ((0,), ((0, 1, 2), (3, 4, 5))))

    def test_a_lot_that_is_less_may_have_a_greater_index_behind_it(self):
        # (0, 3) is less than (1, 2), whichever plans they have.
        for land in SMALL[-4:]:
            for shires in some(judge.plans(land), 12):
                for count in (2, 3):
                    plans = judge_nested.fitting(land, count, 0, 99)
                    self.same(fewest_cut(land, shires, count, 0, 99), judge_nested.fewest_cut(plans, shires))

    def test_no_plan(self):
        self.same(fewest_cut(LAND, SHIRES, 4, 4, 99), None)
        self.same(fewest_cut(LAND, SHIRES, 1, 0, 11), None)
        self.same(fewest_cut(samples.empty((1, 1, 1)), ((0,), (1,), (2,)), 2, 0, 9), None)

    def test_more_wards_than_places(self):
        two, alone = samples.full((1, 1)), ((0,), (1,))
        for count in range(3, 7):
            self.same(fewest_cut(two, alone, count, 0, 9), None)
            self.same(is_barred(two, alone, (0, 1), count, 0, 9), True)
        self.same(fewest_cut(two, alone, 2, 0, 9), ((), alone))
        self.same(fewest_cut(two, ((0, 1),), 2, 0, 9), ((0,), alone))

    def test_counts(self):
        for count in samples.NO_SHIRE_COUNTS:
            self.raises(InvalidCount, fewest_cut, LAND, SHIRES, count, 0, 99)
            self.raises(InvalidCount, is_barred, LAND, SHIRES, (), count, 0, 99)

    def test_nine_places(self):
        alone, whole = tuple((k,) for k in range(9)), (tuple(range(9)),)
        for shires in (alone, whole, ((0, 1, 2), (3, 4, 5), (6, 7, 8)), ((0, 1), (2, 3), (4, 5), (6, 7), (8,))):
            for count in range(1, 7):
                began = time.monotonic()
                lot, plan = fewest_cut(NINE, shires, count, 0, 9)
                self.same(cut_shires(NINE, plan, shires), lot)
                self.same(is_barred(NINE, shires, lot, count, 0, 9), False)
                if lot:
                    self.same(is_barred(NINE, shires, lot[1:], count, 0, 9), True)
                self.assertLess(time.monotonic() - began, SECONDS)

    def test_two_wrong_arguments(self):
        self.raises(InvalidPlan, fewest_cut, LAND, (), 0, 2, 1, field="index", worth=0)
        self.raises(InvalidCount, fewest_cut, LAND, SHIRES, 0, 2, 1)
        self.raises(InvalidBounds, fewest_cut, LAND, SHIRES, 1, 2, 1)
        self.raises(InvalidPart, is_barred, LAND, SHIRES, (2,), 0, 2, 1)
        self.raises(InvalidCount, is_barred, LAND, SHIRES, (1,), 7, 2, 1)


class IsBarredTest(Asking):

    def test_small_lands(self):
        words = {True: 0, False: 0}
        for land in SMALL[::2]:
            for low, high in bounds_of(land):
                for count in (1, 2, 3, 5):
                    plans = judge_nested.fitting(land, count, low, high)
                    for shires in some(judge.plans(land), 4):
                        for lot in some(lots_of(shires), 8):
                            found = is_barred(land, shires, lot, count, low, high)
                            self.same(found, judge_nested.is_barred(plans, shires, lot))
                            words[found] += 1
        self.assertGreater(min(words.values()), 300)

    def test_nothing_is_refused(self):
        one = (tuple(range(6)),)
        self.same(is_barred(LAND, one, (), 1, 0, 99), False)
        self.same(is_barred(LAND, one, (), 2, 0, 99), True)
        self.same(is_barred(LAND, one, (0,), 2, 0, 99), False)


class FactNTest(Asking):
    """Fact N."""

    def test_kept_exactly_if_a_plan_of_the_bundled_land(self):
        draw = random.Random(15)
        words = {True: 0, False: 0}
        for land in SMALL:
            plans = judge.plans(land)
            for shires in some(plans, 6):
                for lot in some(lots_of(shires), 6):
                    if len(judge_nested.bundled(land, shires, lot)[1]) < 2:
                        continue
                    found, rows = bundled(land, shires, lot)
                    for plan in draw.sample(plans, min(8, len(plans))):
                        kept = not set(cut_shires(land, plan, shires)) & set(lot)
                        self.assertEqual(self.is_plan_by(found, rows, plan), kept)
                        words[kept] += 1
        self.assertGreater(min(words.values()), 200)

    def is_plan_by(self, land, rows, plan):
        """Whether a plan is one of a bundled land, each place being again what it was."""
        wards = [tuple(k for k, row in enumerate(rows) if set(row) <= set(ward)) for ward in plan]
        whole = all(sum(len(rows[k]) for k in told) == len(ward) for told, ward in zip(wards, plan, strict=True))
        return whole and is_plan(land, tuple(sorted(wards)))

    def test_no_plan_cuts_fewer_exactly_if_each_lot_with_one_shire_less_is_barred(self):
        for land in SMALL[::2]:
            for low, high in bounds_of(land)[:3]:
                for shires in some(judge.plans(land), 4):
                    for count in (2, 3):
                        found = fewest_cut(land, shires, count, low, high)
                        if found is None:
                            continue
                        for lot in lots_of(shires):
                            if len(lot) == len(found[0]) - 1:
                                self.same(is_barred(land, shires, lot, count, low, high), True)
                        self.same(is_barred(land, shires, found[0], count, low, high), False)


if __name__ == "__main__":
    unittest.main()
