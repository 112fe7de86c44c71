"""Promise [14]: labels, the exchange walk, and rows that are strange."""

import random
import time
import unittest
from fractions import Fraction
from functools import lru_cache
from math import gcd

from tests import judge, judge_exchanges, judge_walks, samples
from tests.asking import Asking
from wardsdrawn.errors import InvalidBounds, InvalidCount, InvalidPart, InvalidPlan, Refused, TooMany
from wardsdrawn.exchanges import closed_lot
from wardsdrawn.strange import chances, is_strange, label, strange_chance, strange_share

ISLE, HALVES = samples.LAND, samples.PLAN
ONES = (1, 1, 1, 1, 1)
ONE = ((0, 1, 2, 3, 4),)
# Two wards of it fit from low on exactly if the lesser one has low at least: 2,048 less low of the plans.
POWERS = samples.full(tuple(1 << k for k in range(12)))
POWERS_HALVES = (tuple(range(11)), (11,))
LEVELS = ((1, 4), (1, 3), (1, 2), (2, 3), (1, 1), (1, 10 ** 89))
SECONDS = 10

LANDS = [*judge.lands((2, 0, 5)), *judge.lands((3, 1, 0, 2))[::6], samples.ring_of((1, 1, 1, 1)),
         samples.full((1, 2, 3, 4)), *[samples.drawn_land(seed, 5, 40 + 12 * seed) for seed in range(4)]]


def bounds_of(land):
    """Some bounds for a land, from wide to narrow."""
    whole = sum(land[0])
    return [(0, whole), (whole // 4, whole - whole // 4), (0, 10 ** 89)]


CASES = [(land, low, high, [plan for plan in judge_exchanges.fitting(land, low, high) if len(plan) > 1])
         for land in LANDS for low, high in bounds_of(land)]


@lru_cache(maxsize=None)
def stepped(land, plan, low, high):
    return judge_walks.exchange_step(land, plan, low, high)


def some(plans, most):
    return plans[::max(1, len(plans) // most)]


def weights_for(land, seed):
    draw = random.Random(seed)
    most = draw.choice((1, 3, 1000))
    return tuple(draw.randint(-most, most) for _ in land[1])


def judged_chance(land, plan, low, high, weights, steps, level):
    return judge_walks.strange_chance(lambda told: stepped(land, told, low, high),
                                      lambda told: judge_walks.label(land, told, weights), plan, steps, level)


class DocumentTest(Asking):
    """The examples of the document."""

    def test_examples(self):
        self.same(
            [label(ISLE, HALVES, ONES), is_strange((1, 2, 3), (1, 3)),
             strange_chance(ISLE, HALVES, 6, 12, ONES, 1, (1, 2))],
            [1, True, (1, 5)],
        )
        self.same(
            [strange_share(ISLE, HALVES, 6, 12, ONES, 1, (1, 2)), chances(ISLE, HALVES, 6, 12, 1)[1:]],
            [(1, 15), ((((0, 1, 2), (3, 4)), (3, 5)), (((0, 1, 2, 3), (4,)), (1, 5)))],
        )


class LabelTest(Asking):

    def test_all_plans(self):
        for seed, land in enumerate(LANDS):
            weights = weights_for(land, seed)
            for plan in judge.plans(land):
                self.same(label(land, plan, weights), judge_walks.label(land, plan, weights))

    def test_weights_below_zero(self):
        self.same(label(ISLE, HALVES, (5, 5, 5, -7, 5)), -7)
        self.same(label(ISLE, ((0,), (1,), (2,), (3,), (4,)), (-1, -20, -300, 1000, -1000)), -321)
        self.same(label(ISLE, ((0, 1), (2,), (3, 4)), (-1, -20, 300, -1000, 7)), -720)

    def test_weights_at_their_limits(self):
        land = samples.full((0,) * 12)
        alone = tuple((k,) for k in range(12))
        self.same(label(land, alone, (1000,) * 66), 66000)
        self.same(label(land, alone, (-1000,) * 66), -66000)
        self.same(label(land, (tuple(range(12)),), (1000,) * 66), 0)
        self.same(label(samples.empty((1,) * 12), alone, ()), 0)

    def test_no_weights(self):
        for weights in samples.NO_WEIGHTS:
            self.raises(InvalidPart, label, ISLE, HALVES, weights)


class IsStrangeTest(Asking):

    def test_at_the_very_edge_and_one_label_beyond_it(self):
        self.same(is_strange((1, 2, 3), (1, 3)), True)
        self.same(is_strange((1, 1, 3), (1, 3)), False)
        self.same(is_strange((1, 1, 3), (2, 3)), True)
        self.same(is_strange((1, 2, 3, 4), (1, 3)), True)
        self.same(is_strange((1, 2), (1, 3)), False)
        for many in (2, 3, 7, 100, 200):
            for low in range(2, many + 1):
                row = (5,) + (5, -4) * (low // 2)
                row = (row[:low] + (6,) * many)[:many]
                self.same(is_strange(row, judge_walks.told(Fraction(low, many))), True)
                self.same(is_strange(row, judge_walks.told(Fraction(low, many) - Fraction(1, 10 ** 40))), False)
                self.same(is_strange(row, judge_walks.told(Fraction(low - 1, many))), False)

    def test_nothing_is_rounded(self):
        third = 10 ** 89 // 3
        self.assertEqual(gcd(third, 10 ** 89), 1)
        self.assertEqual(gcd(third + 1, 10 ** 89), 2)
        self.same(is_strange((1, 2, 3), (third, 10 ** 89)), False)
        self.same(is_strange((1, 2, 3), ((third + 1) // 2, 10 ** 89 // 2)), True)

    def test_one_label(self):
        self.same(is_strange((7,), (1, 1)), True)
        self.same(is_strange((-7,), (99, 100)), False)
        self.same(is_strange((0,), (1, 2)), False)

    def test_labels_that_are_alike(self):
        self.same(is_strange((4, 4, 4, 4), (3, 4)), False)
        self.same(is_strange((4, 4, 4, 4), (1, 1)), True)
        self.same(is_strange((4, 4, 5, 5), (1, 2)), True)
        self.same(is_strange((4,) * 200, (199, 200)), False)
        self.same(is_strange((4,) * 200, (1, 1)), True)

    def test_drawn_rows(self):
        draw = random.Random(1)
        for _ in range(400):
            row = tuple(draw.randint(-3, 3) for _ in range(draw.randint(1, 9)))
            for level in LEVELS:
                self.same(is_strange(row, level), judge_walks.is_strange(row, level))

    def test_great_labels(self):
        self.same(is_strange((10 ** 89, 10 ** 89 + 1, 10 ** 89 - 1), (1, 2)), False)
        self.same(is_strange((10 ** 89, 10 ** 89 + 1, 10 ** 89 + 2), (1, 2)), True)
        self.same(is_strange((0,) + (1,) * 199, (1, 200)), True)

    def test_no_labels_and_no_level(self):
        for labels in samples.NO_LABELS:
            self.raises(InvalidPart, is_strange, labels, (1, 2))
        for level in samples.NO_LEVELS:
            self.raises(InvalidPart, is_strange, (1, 2, 3), level)


class ChancesTest(Asking):

    def test_small_lands(self):
        for land, low, high, plans in CASES:
            for plan in some(plans, 4):
                for steps in range(6):
                    wanted = judge_walks.walked(lambda told: stepped(land, told, low, high), plan, steps)
                    self.same(chances(land, plan, low, high, steps), judge_walks.told_row(wanted))

    def test_twelve_steps(self):
        for land, low, high, plans in CASES[::5]:
            for plan in some(plans, 1):
                for steps in (11, 12):
                    wanted = judge_walks.walked(lambda told: stepped(land, told, low, high), plan, steps)
                    self.same(chances(land, plan, low, high, steps), judge_walks.told_row(wanted))

    def test_no_step(self):
        self.same(chances(ISLE, HALVES, 6, 12, 0), ((HALVES, (1, 1)),))
        self.same(chances(samples.empty((1, 1)), ((0,), (1,)), 0, 9, 0), ((((0,), (1,)), (1, 1)),))

    def test_a_plan_that_cannot_change(self):
        plan = ((0,), (1,))
        self.same(chances(samples.full((1, 1)), plan, 0, 9, 12), ((plan, (1, 1)),))

    def test_chances_come_to_one(self):
        for steps in range(13):
            self.assertEqual(sum(Fraction(*part) for _, part in chances(ISLE, HALVES, 0, 99, steps)), 1)

    def test_steps(self):
        for steps in samples.NO_MANY_STEPS:
            self.raises(InvalidCount, chances, ISLE, HALVES, 6, 12, steps)
            self.raises(InvalidCount, strange_chance, ISLE, HALVES, 6, 12, ONES, steps, (1, 2))
            self.raises(InvalidCount, strange_share, ISLE, HALVES, 6, 12, ONES, steps, (1, 2))


class StrangeChanceTest(Asking):

    def test_small_lands(self):
        for seed, (land, low, high, plans) in enumerate(CASES):
            weights = weights_for(land, seed)
            for plan in some(plans, 2):
                for steps in range(4):
                    level = LEVELS[(seed + steps) % len(LEVELS)]
                    wanted = judge_walks.told(judged_chance(land, plan, low, high, weights, steps, level))
                    self.same(strange_chance(land, plan, low, high, weights, steps, level), wanted)

    def test_longer_rows(self):
        found = set()
        for seed in range(8):
            weights = weights_for(ISLE, seed)
            for level in LEVELS:
                wanted = judge_walks.told(judged_chance(ISLE, HALVES, 0, 99, weights, 6, level))
                self.same(strange_chance(ISLE, HALVES, 0, 99, weights, 6, level), wanted)
                found.add(wanted)
        self.assertGreater(len(found), 6)

    def test_no_step(self):
        self.same(strange_chance(ISLE, HALVES, 6, 12, ONES, 0, (1, 1)), (1, 1))
        self.same(strange_chance(ISLE, HALVES, 6, 12, ONES, 0, (99, 100)), (0, 1))

    def test_the_level_one(self):
        for steps in range(13):
            self.same(strange_chance(ISLE, HALVES, 6, 12, ONES, steps, (1, 1)), (1, 1))

    def test_a_plan_at_which_the_walk_stays_counts_each_time(self):
        plan = ((0,), (1,))
        for steps in range(1, 13):
            self.same(strange_chance(samples.full((1, 1)), plan, 0, 9, (1,), steps, (steps, steps + 1)), (0, 1))

    def test_a_land_without_a_border(self):
        plan = ((0,), (1,), (2,))
        self.same(strange_chance(samples.empty((1, 1, 1)), plan, 0, 9, (), 2, (1, 2)), (0, 1))


class StrangeShareTest(Asking):

    def test_small_lands(self):
        for seed, (land, low, high, plans) in enumerate(CASES):
            weights = weights_for(land, seed)
            near = judge_exchanges.near_of(land, low, high)
            for plan in some(plans, 1):
                lot = judge_exchanges.closed_lot(near, plan)
                if len(lot) > 40:
                    continue
                steps = 1 + seed % 3
                level = LEVELS[seed % len(LEVELS)]
                found = [judged_chance(land, told, low, high, weights, steps, level) for told in lot]
                self.same(strange_share(land, plan, low, high, weights, steps, level),
                          judge_walks.told(sum(found) / len(lot)))

    def test_the_mean_of_strange_chance(self):
        for seed in range(6):
            weights = weights_for(ISLE, seed)
            for steps in (0, 1, 5, 12):
                for level in LEVELS:
                    lot = closed_lot(ISLE, HALVES, 0, 99)
                    found = [Fraction(*strange_chance(ISLE, plan, 0, 99, weights, steps, level)) for plan in lot]
                    wanted = judge_walks.told(sum(found) / len(lot))
                    for plan in lot:
                        self.same(strange_share(ISLE, plan, 0, 99, weights, steps, level), wanted)

    def test_a_closed_lot_of_one_plan(self):
        plan = ((0,), (1,))
        self.same(strange_share(samples.full((1, 1)), plan, 0, 9, (-5,), 3, (1, 1)), (1, 1))
        self.same(strange_share(samples.full((1, 1)), plan, 0, 9, (-5,), 3, (3, 4)), (0, 1))

    def test_two_hundred_plans(self):
        draw = random.Random(2)
        weights = tuple(draw.randint(-1000, 1000) for _ in POWERS[1])
        self.assertEqual(len(closed_lot(POWERS, POWERS_HALVES, 1848, 4095)), 200)
        began = time.monotonic()
        found = chances(POWERS, POWERS_HALVES, 1848, 4095, 12)
        self.assertLess(time.monotonic() - began, SECONDS)
        self.assertEqual(len(found), 200)
        began = time.monotonic()
        strange_chance(POWERS, POWERS_HALVES, 1848, 4095, weights, 12, (1, 5))
        self.assertLess(time.monotonic() - began, SECONDS)
        for level in ((1, 5), (1, 1)):
            began = time.monotonic()
            top, bottom = strange_share(POWERS, POWERS_HALVES, 1848, 4095, weights, 12, level)
            self.assertLess(time.monotonic() - began, SECONDS)
            self.assertTrue(0 < top <= bottom)


class RefusedTest(Asking):

    def ask(self, land, plan, low, high, steps):
        """The three calls, each with right arguments else."""
        weights = (1,) * len(land[1])
        return [(chances, land, plan, low, high, steps),
                (strange_chance, land, plan, low, high, weights, steps, (1, 2)),
                (strange_share, land, plan, low, high, weights, steps, (1, 2))]

    def test_a_plan_of_one_ward(self):
        for asked in self.ask(ISLE, ONE, 0, 99, 1) + self.ask(ISLE, ONE, 0, 1, 0):
            self.raises(Refused, *asked)

    def test_a_plan_that_does_not_fit(self):
        for low, high in ((8, 11), (7, 10), (0, 0), (12, 99)):
            for asked in self.ask(ISLE, HALVES, low, high, 0):
                self.raises(Refused, *asked)

    def test_more_than_two_hundred_plans_whatever_the_steps(self):
        began = time.monotonic()
        for steps in (0, 1, 12):
            for asked in self.ask(POWERS, POWERS_HALVES, 1847, 4095, steps):
                self.raises(TooMany, *asked, field="count", worth=200)
            for asked in self.ask(samples.full((1,) * 12), (tuple(range(6)), tuple(range(6, 12))), 0, 99, steps):
                self.raises(TooMany, *asked, field="count", worth=200)
        self.assertLess(time.monotonic() - began, SECONDS)
        for asked in self.ask(POWERS, POWERS_HALVES, 1848, 4095, 1):
            call, *arguments = asked
            call(*arguments)

    def test_behind_the_errors_of_all_parameters(self):
        self.raises(InvalidCount, chances, ISLE, ONE, 6, 12, 13)
        self.raises(InvalidBounds, chances, ISLE, ONE, 6, 5, 13)
        for call in (strange_chance, strange_share):
            self.raises(InvalidPart, call, ISLE, ONE, 6, 12, ONES, 1, (2, 4))
            self.raises(InvalidCount, call, ISLE, ONE, 6, 12, ONES, 13, (2, 4))
            self.raises(InvalidPart, call, ISLE, ONE, 6, 12, (1,), 13, (1, 2))
            self.raises(InvalidBounds, call, ISLE, ONE, 12, 6, (1,), 13, (1, 2))
            self.raises(InvalidPlan, call, ISLE, (), 12, 6, (1,), 13, (1, 2), field="index", worth=0)
        # Refused stands ahead of TooMany.
        many = (tuple(range(6)), tuple(range(6, 12)))
        for asked in self.ask(samples.full((1,) * 12), many, 0, 5, 1):
            self.raises(Refused, *asked)
        for asked in self.ask(samples.full((1,) * 12), (tuple(range(12)),), 0, 99, 1):
            self.raises(Refused, *asked)


class FactRTest(Asking):
    """Fact R."""

    def test_the_same_chance_as_back(self):
        for land, low, high, plans in CASES[::2]:
            for plan in some(plans, 4):
                for steps in (1, 3):
                    for other, part in chances(land, plan, low, high, steps):
                        self.assertIn((plan, part), chances(land, other, low, high, steps))

    def test_each_plan_behind_any_steps_is_as_likely(self):
        lot = closed_lot(ISLE, HALVES, 0, 99)
        for steps in (1, 2, 7, 12):
            comes = {}
            for plan in lot:
                for other, part in chances(ISLE, plan, 0, 99, steps):
                    comes[other] = comes.get(other, 0) + Fraction(*part)
            self.assertEqual(comes, {plan: 1 for plan in lot})

    def test_the_square_is_at_most_twice_the_level(self):
        for seed, (land, low, high, plans) in enumerate(CASES):
            for plan in some(plans, 1):
                for level in LEVELS[:4]:
                    found = Fraction(*strange_share(land, plan, low, high, weights_for(land, seed), 6, level))
                    self.assertLessEqual(found * found, 2 * Fraction(*level))


if __name__ == "__main__":
    unittest.main()
