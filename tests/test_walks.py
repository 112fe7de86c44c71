"""Promises [12] and [13]: the tree walk, and the walk that a tape tells."""

import random
import time
import unittest
from fractions import Fraction
from functools import lru_cache
from itertools import product
from math import gcd

from tests import judge, judge_exchanges, judge_trees, judge_walks, samples
from tests.asking import Asking
from wardsdrawn.errors import InvalidBounds, InvalidCount, InvalidPart, InvalidPlan, Refused, TooMany
from wardsdrawn.exchanges import closed_lots
from wardsdrawn.walks import behind, chance, nexts, share, wandered

SQUARE = ((1, 1, 1, 1), ((0, 1), (0, 2), (1, 3), (2, 3)))
ACROSS, ALONG = ((0, 1), (2, 3)), ((0, 2), (1, 3))
LANDS = [*judge.lands((2, 0, 5)), *judge.lands((3, 1, 0, 2))[::3], SQUARE, samples.full((1, 2, 3, 4)),
         *[samples.drawn_land(seed, 5, 40 + 10 * seed) for seed in range(5)], samples.drawn_land(9, 6, 40)]
NINE = samples.full((1,) * 9)
TEN = samples.full((1,) * 10)
WHOLE_OF_NINE = (tuple(range(9)),)
# The folk of full lands, and bounds that 400 plans of three wards fit, and 401.
EDGES = (((30, 17, 1, 27, 15, 25, 8, 21, 2), 33, 61), ((4, 19, 8, 1, 24, 7, 14, 9, 6), 19, 38))
SECONDS = 10


def bounds_of(land):
    """Some bounds for a land, from wide to narrow."""
    whole = sum(land[0])
    return [(0, whole), (whole // 4, whole - whole // 4), (1, whole + 9), (0, 0), (whole // 3, 10 ** 89)]


CASES = [(land, low, high, judge_exchanges.fitting(land, low, high)) for land in LANDS for low, high in bounds_of(land)]


@lru_cache(maxsize=None)
def stepped(land, plan, low, high):
    return judge_walks.tree_step(land, plan, low, high)


def some(plans, most):
    return plans[::max(1, len(plans) // most)]


class DocumentTest(Asking):
    """The examples of the document."""

    def test_examples(self):
        self.same(
            [chance(SQUARE, ACROSS, ALONG, 2, 2), chance(SQUARE, ACROSS, ACROSS, 2, 2), share(SQUARE, ALONG, 2, 2),
             nexts(SQUARE, ACROSS, 1, 3)[1:3]],
            [(1, 12), (11, 12), (1, 2), ((((0, 1), (2, 3)), (7, 12)), (((0, 1, 2), (3,)), (1, 12)))],
        )
        self.same(
            wandered(((1, 1, 1), ((0, 1), (1, 2))), ((0,), (1, 2)), 1, 2, ((0, 0, 1, 0), (3, 5, 2, 9))),
            (((0,), (1, 2)), ((0, 1), (2,)), ((0,), (1, 2))),
        )


class NextsTest(Asking):

    def test_small_lands(self):
        for land, low, high, plans in CASES:
            for plan in some(plans, 12):
                self.same(nexts(land, plan, low, high), judge_walks.told_row(stepped(land, plan, low, high)))

    def test_all_chances_come_to_one(self):
        for land, low, high, plans in CASES:
            for plan in some(plans, 12):
                found = [Fraction(*told) for _, told in nexts(land, plan, low, high)]
                self.assertEqual(sum(found), 1)

    def test_a_plan_of_one_ward_stays(self):
        self.same(nexts(NINE, WHOLE_OF_NINE, 0, 9), ((WHOLE_OF_NINE, (1, 1)),))
        self.same(nexts(SQUARE, ((0, 1, 2, 3),), 4, 4), ((((0, 1, 2, 3),), (1, 1)),))

    def test_wards_without_a_border_between_them(self):
        land = samples.path((1, 1, 1))
        plan = ((0,), (1,), (2,))
        self.same(nexts(land, plan, 0, 9), ((plan, (1, 1)),))
        apart = samples.empty((1, 1, 1))
        self.same(nexts(apart, plan, 0, 9), ((plan, (1, 1)),))
        # The wards 0 and 2 are drawn in a third of the draws, and have no border between them.
        land = samples.path((1, 1, 1, 1))
        self.same(nexts(land, ((0,), (1, 2), (3,)), 1, 2), (
            (((0,), (1,), (2, 3)), (1, 6)), (((0,), (1, 2), (3,)), (2, 3)), (((0, 1), (2,), (3,)), (1, 6))))

    def test_the_plan_itself_is_among_them(self):
        for land, low, high, plans in CASES:
            for plan in some(plans, 6):
                self.assertIn(plan, [told for told, _ in nexts(land, plan, low, high)])

    def test_the_bounds_bar_sides(self):
        self.same(nexts(SQUARE, ACROSS, 2, 2), ((ACROSS, (11, 12)), (ALONG, (1, 12))))
        self.same(nexts(SQUARE, ACROSS, 2, 10 ** 89), ((ACROSS, (11, 12)), (ALONG, (1, 12))))
        self.assertEqual(len(nexts(SQUARE, ACROSS, 1, 3)), 6)
        # The folk of both sides, not of one alone, is asked for.
        land = samples.path((3, 1, 1, 1))
        self.same(nexts(land, ((0,), (1, 2, 3)), 3, 3), ((((0,), (1, 2, 3)), (1, 1)),))
        self.same(nexts(land, ((0,), (1, 2, 3)), 2, 4), ((((0,), (1, 2, 3)), (2, 3)), (((0, 1), (2, 3)), (1, 3))))
        self.same(nexts(land, ((0,), (1, 2, 3)), 2, 3), ((((0,), (1, 2, 3)), (1, 1)),))

    def test_wards_of_no_folk(self):
        land = samples.path((0, 0, 0))
        self.same(nexts(land, ((0,), (1, 2)), 0, 0), ((((0,), (1, 2)), (1, 2)), (((0, 1), (2,)), (1, 2))))


class ChanceTest(Asking):

    def test_small_lands(self):
        for land, low, high, plans in CASES:
            for plan in some(plans, 5):
                row = stepped(land, plan, low, high)
                for other in some(plans, 12) + [plan]:
                    wanted = judge_walks.told(Fraction(row.get(other, 0)))
                    self.same(chance(land, plan, other, low, high), wanted)

    def test_no_step_leads_there(self):
        self.same(chance(SQUARE, ACROSS, ((0, 1, 2, 3),), 0, 9), (0, 1))
        self.same(chance(SQUARE, ((0, 1, 2, 3),), ACROSS, 0, 9), (0, 1))
        self.same(chance(SQUARE, ((0,), (1,), (2, 3)), ACROSS, 0, 9), (0, 1))
        path = samples.path((1,) * 6)
        self.same(chance(path, ((0,), (1,), (2, 3, 4, 5)), ((0, 1), (2, 3), (4, 5)), 0, 9), (0, 1))
        self.same(chance(path, ((0, 1), (2, 3), (4, 5)), ((0,), (1, 2, 3), (4, 5)), 0, 9), (1, 9))

    def test_the_plan_itself(self):
        self.same(chance(SQUARE, ((0, 1, 2, 3),), ((0, 1, 2, 3),), 0, 9), (1, 1))
        self.same(chance(samples.empty((1, 1)), ((0,), (1,)), ((0,), (1,)), 0, 9), (1, 1))


class ShareTest(Asking):

    def test_small_lands(self):
        for land, low, high, plans in CASES:
            for plan in some(plans, 12):
                self.same(share(land, plan, low, high),
                          judge_walks.told(judge_walks.tree_share(land, plan, low, high)))

    def test_shares_of_all_plans_of_as_many_wards_come_to_one(self):
        for land, low, high, plans in CASES[::3]:
            for count in {len(plan) for plan in plans}:
                found = [Fraction(*share(land, plan, low, high)) for plan in plans if len(plan) == count]
                self.assertEqual(sum(found), 1)

    def test_nine_places(self):
        began = time.monotonic()
        self.same(share(NINE, WHOLE_OF_NINE, 0, 9), (1, 1))
        # Cayley: full lands of one place and of eight have 1 and 8 ** 6 trees.
        self.same(share(NINE, ((0,), tuple(range(1, 9))), 1, 8), (65536, 885735))
        self.same(share(NINE, tuple((k,) for k in range(9)), 1, 1), (1, 1))
        self.same(share(NINE, ((0, 1, 2, 3), (4, 5, 6, 7, 8)), 4, 5), (1, 126))
        self.assertLess(time.monotonic() - began, SECONDS)


class BehindTest(Asking):

    def test_small_lands(self):
        for land, low, high, plans in CASES[::2]:
            for plan in some(plans, 2):
                for steps in range(7):
                    wanted = judge_walks.walked(lambda told: stepped(land, told, low, high), plan, steps)
                    self.same(behind(land, plan, low, high, steps), judge_walks.told_row(wanted))

    def test_step_upon_step(self):
        land = samples.drawn_land(4, 7, 50)
        plan = closed_lots(land, 3, 3, 99)[0][0]
        rows = {}
        for steps in range(6):
            found = {}
            for told, part in behind(land, plan, 3, 99, steps):
                if told not in rows:
                    rows[told] = nexts(land, told, 3, 99)
                for other, more in rows[told]:
                    found[other] = found.get(other, 0) + Fraction(*part) * Fraction(*more)
            self.same(behind(land, plan, 3, 99, steps + 1), judge_walks.told_row(found))
        self.assertGreater(len(found), 30)

    def test_no_step_and_one(self):
        self.same(behind(SQUARE, ACROSS, 1, 3, 0), ((ACROSS, (1, 1)),))
        self.same(behind(SQUARE, ACROSS, 1, 3, 1), nexts(SQUARE, ACROSS, 1, 3))
        self.same(behind(NINE, WHOLE_OF_NINE, 0, 9, 6), ((WHOLE_OF_NINE, (1, 1)),))

    def test_fractions_have_no_common_divisor(self):
        for steps in range(7):
            for _, (top, bottom) in behind(SQUARE, ACROSS, 1, 3, steps):
                self.assertTrue(0 < top <= bottom and gcd(top, bottom) == 1)

    def test_steps(self):
        for steps in (-1, 7, True, False, None, "1", (1,), 10 ** 89):
            self.raises(InvalidCount, behind, SQUARE, ACROSS, 1, 3, steps)

    def test_too_many(self):
        three = ((0,), (1,), tuple(range(2, 9)))
        began = time.monotonic()
        self.assertEqual(len(behind(NINE, three, 0, 9, 0)), 1)
        self.assertEqual(len(behind(NINE, three, 0, 9, 1)), 253)
        for steps in range(2, 7):
            self.raises(TooMany, behind, NINE, three, 0, 9, steps, field="count", worth=400)
        for count in range(3, 7):
            plan = tuple((k,) for k in range(count - 1)) + (tuple(range(count - 1, 9)),)
            self.raises(TooMany, behind, NINE, plan, 0, 9, 6, field="count", worth=400)
        self.assertLess(time.monotonic() - began, SECONDS)

    def test_four_hundred_and_one_more(self):
        for (folk, low, high), many in zip(EDGES, (400, 401), strict=True):
            land = samples.full(folk)
            plans = sorted(plan for lot in closed_lots(land, 3, low, high) for plan in lot)
            self.assertEqual(len(plans), many)
            began = time.monotonic()
            if many > 400:
                self.raises(TooMany, behind, land, plans[0], low, high, 6, field="count", worth=400)
            else:
                self.same([plan for plan, _ in behind(land, plans[0], low, high, 6)], plans)
            self.assertLess(time.monotonic() - began, SECONDS)

    def test_six_steps_on_nine_places(self):
        land = samples.drawn_land(3, 9, 70)
        plan = closed_lots(land, 2, 0, 10 ** 89)[0][0]
        began = time.monotonic()
        found = behind(land, plan, 0, 10 ** 89, 6)
        self.assertLess(time.monotonic() - began, SECONDS)
        self.assertEqual(sum(Fraction(*part) for _, part in found), 1)


class RefusedTest(Asking):

    def test_more_than_nine_places(self):
        plan, alone = (tuple(range(10)),), tuple((k,) for k in range(10))
        self.raises(Refused, chance, TEN, plan, plan, 0, 99)
        self.raises(Refused, chance, TEN, plan, alone, 0, 99)
        self.raises(Refused, nexts, TEN, plan, 0, 99)
        self.raises(Refused, share, TEN, alone, 0, 99)
        self.raises(Refused, behind, TEN, alone, 0, 99, 0)
        self.raises(Refused, wandered, TEN, plan, 0, 99, ())
        self.same(wandered(NINE, WHOLE_OF_NINE, 9, 9, ()), (WHOLE_OF_NINE,))

    def test_a_ward_outside_of_the_bounds(self):
        odd = ((0,), (1, 2, 3))
        for low, high in ((2, 3), (1, 2), (4, 9), (0, 0)):
            self.raises(Refused, chance, SQUARE, odd, odd, low, high)
            self.raises(Refused, nexts, SQUARE, odd, low, high)
            self.raises(Refused, share, SQUARE, odd, low, high)
            self.raises(Refused, behind, SQUARE, odd, low, high, 0)
            self.raises(Refused, wandered, SQUARE, odd, low, high, ())
        self.raises(Refused, chance, SQUARE, ACROSS, odd, 2, 2)
        self.raises(Refused, chance, SQUARE, odd, ACROSS, 2, 2)
        self.raises(Refused, chance, SQUARE, ACROSS, ((0, 1, 2, 3),), 2, 2)

    def test_behind_the_errors_of_all_parameters(self):
        alone = tuple((k,) for k in range(10))
        self.raises(InvalidCount, behind, TEN, alone, 0, 99, 7)
        self.raises(InvalidPart, wandered, TEN, alone, 0, 99, None)
        self.raises(InvalidBounds, chance, TEN, alone, alone, 2, 1)
        self.raises(InvalidPlan, chance, TEN, alone, ACROSS, 2, 1, field="index", worth=2)
        self.raises(InvalidCount, behind, SQUARE, ACROSS, 3, 9, -1)
        self.raises(InvalidPart, wandered, SQUARE, ACROSS, 3, 9, [])
        # Refused stands ahead of TooMany.
        self.raises(Refused, behind, NINE, ((0,), (1,), tuple(range(2, 9))), 2, 9, 6)


class WanderedTest(Asking):

    def test_small_lands(self):
        draw = random.Random(13)
        moved = 0
        for land, low, high, plans in CASES:
            for plan in some(plans, 3):
                tape = tuple(tuple(draw.randrange(40) for _ in range(4)) for _ in range(12))
                found = wandered(land, plan, low, high, tape)
                self.same(found, judge_walks.wandered(land, plan, low, high, tape))
                self.assertEqual(len(found), 13)
                moved += len(set(found)) > 2
        self.assertGreater(moved, 40)

    def test_numbers_far_beyond(self):
        draw = random.Random(14)
        land = samples.drawn_land(2, 6, 60)
        for plan in some(judge_exchanges.fitting(land, 0, 99), 10):
            for most in (10 ** 6, 10 ** 20, 10 ** 89):
                tape = tuple(tuple(draw.randrange(most) for _ in range(4)) for _ in range(4))
                self.same(wandered(land, plan, 0, 99, tape), judge_walks.wandered(land, plan, 0, 99, tape))

    def test_each_number_is_taken_modulo(self):
        # Of the square two wards of two places have one pair, 4 trees of 3 borders each.
        for p, t, e in product(range(3), range(9), range(7)):
            for a in range(5):
                tape = ((p, t, e, a),)
                self.same(wandered(SQUARE, ACROSS, 1, 3, tape), judge_walks.wandered(SQUARE, ACROSS, 1, 3, tape))

    def test_pairs_are_numbered_by_the_indexes_of_the_wards(self):
        # The sequence of the wards is that of the plan, not that of their masks.
        land = samples.full((1,) * 5)
        plan = ((0, 4), (1,), (2, 3))
        for p in range(4):
            for t in range(20):
                tape = ((p, t, 1, 0),)
                self.same(wandered(land, plan, 1, 3, tape), judge_walks.wandered(land, plan, 1, 3, tape))

    def test_steps_that_do_nothing(self):
        one = ((0, 1, 2, 3),)
        self.same(wandered(SQUARE, one, 0, 9, ((5, 6, 7, 8), (0, 0, 0, 0))), (one, one, one))
        apart = ((0,), (1,))
        self.same(wandered(samples.empty((1, 1)), apart, 0, 9, ((5, 6, 7, 8),)), (apart, apart))
        # a is not 0 modulo two borders between both new wards; a side has folk outside of the bounds.
        self.same(wandered(SQUARE, ACROSS, 1, 3, ((0, 0, 0, 1),))[1], ACROSS)
        self.same(wandered(SQUARE, ACROSS, 2, 2, ((0, 0, 1, 0),))[1], ACROSS)

    def test_no_step(self):
        self.same(wandered(SQUARE, ACROSS, 2, 2, ()), (ACROSS,))

    def test_two_hundred_steps(self):
        draw = random.Random(200)
        tape = tuple(tuple(draw.randrange(10 ** 12) for _ in range(4)) for _ in range(200))
        began = time.monotonic()
        found = wandered(NINE, ((0, 1, 2, 3), (4, 5, 6, 7, 8)), 1, 8, tape)
        self.assertLess(time.monotonic() - began, SECONDS)
        self.assertEqual(len(found), 201)
        self.assertGreater(len(set(found)), 5)
        self.same(wandered(SQUARE, ACROSS, 1, 3, tape), judge_walks.wandered(SQUARE, ACROSS, 1, 3, tape))
        self.raises(InvalidPart, wandered, SQUARE, ACROSS, 1, 3, tape + tape[:1])

    def test_no_tape(self):
        for tape in samples.NO_TAPES:
            self.raises(InvalidPart, wandered, SQUARE, ACROSS, 1, 3, tape)
            # A tape is judged whole, ahead of all, also where its steps would do nothing.
            self.raises(InvalidPart, wandered, SQUARE, ((0, 1, 2, 3),), 0, 9, tape)


class FactSTest(Asking):
    """Fact S."""

    def test_share_times_chance_is_the_same_both_ways(self):
        for land, low, high, plans in CASES[::2]:
            for plan in some(plans, 5):
                for other in some(plans, 5):
                    if len(plan) == len(other):
                        there = self.product(land, plan, other, low, high)
                        self.assertEqual(there, self.product(land, other, plan, low, high))

    def product(self, land, plan, other, low, high):
        """The share of a plan times the chance to another one."""
        return Fraction(*share(land, plan, low, high)) * Fraction(*chance(land, plan, other, low, high))

    def test_a_step_keeps_the_shares(self):
        for land, low, high, plans in CASES[::3]:
            for count in {len(plan) for plan in plans}:
                alike = [plan for plan in plans if len(plan) == count]
                comes = {plan: Fraction(0) for plan in alike}
                for plan in alike:
                    for other, part in nexts(land, plan, low, high):
                        comes[other] += Fraction(*share(land, plan, low, high)) * Fraction(*part)
                for plan in alike:
                    self.assertEqual(comes[plan], Fraction(*share(land, plan, low, high)))


class FactWTest(Asking):
    """Fact W (wandering)."""

    def test_drawn_evenly_the_tape_has_the_chances(self):
        for land, low, high, plans in CASES[::4]:
            for plan in some(plans, 2):
                self.same(judge_walks.told_row(self.drawn(land, plan, low, high)), nexts(land, plan, low, high))

    def drawn(self, land, plan, low, high):
        """The dict of the chances of the plans behind a step, all numbers drawn evenly below those that come."""
        found = {}
        pairs = [(one, other) for one in range(len(plan)) for other in range(one + 1, len(plan))]
        for p, (one, other) in enumerate(pairs):
            trees = judge_trees.trees(land, tuple(sorted(plan[one] + plan[other])))
            for t, tree in enumerate(trees or [((), ())]):
                for e in range(len(tree)):
                    many = 1
                    if trees:
                        both = tuple(sorted(plan[one] + plan[other]))
                        many = judge_walks.borders_between(land, *judge_trees.parts(land, both, tree, (tree[e],)))
                    for a in range(many):
                        told = wandered(land, plan, low, high, ((p, t, e, a),))[1]
                        part = Fraction(1, len(pairs) * len(trees or [()]) * len(tree) * many)
                        found[told] = found.get(told, 0) + part
        if not pairs:
            found[wandered(land, plan, low, high, ((0, 0, 0, 0),))[1]] = Fraction(1)
        return found


if __name__ == "__main__":
    unittest.main()
