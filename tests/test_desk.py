"""Promise [16]: a desk on which a plan is turned by hand."""

import random
import time
import unittest
from itertools import combinations

from tests import judge, judge_exchanges, samples
from tests.asking import Asking
from tests.judge_desk import PlainDesk
from wardsdrawn.desk import Desk
from wardsdrawn.errors import InvalidBounds, InvalidCount, InvalidLand, InvalidLot, InvalidPlace, InvalidPlan
from wardsdrawn.errors import Refused, WardError
from wardsdrawn.exchanges import near
from wardsdrawn.lands import is_plan

LAND = ((2, 2, 2, 2, 2, 2), ((0, 1), (0, 3), (1, 2), (1, 4), (2, 5), (3, 4), (4, 5)))
HALVES = ((0, 1, 2), (3, 4, 5))
NO_NUMBERS = (-1, 2, 12, True, False, None, "0", (0,), [0], 10 ** 89, -(10 ** 89), ())
NO_PLACES = (-1, 6, 12, True, False, None, "0", (0,), [0], 10 ** 89, -(10 ** 89), ())
NO_LOTS = ((), [], [0], 0, None, "0", (0, 0), (1, 0), (0, 6), (-1, 0), (True,), (False, 1), ("0",), (0, None),
           (0, (1,)))
FULL = samples.full((2,) * 6)
# For each call right arguments for a desk of FULL and HALVES, and for each of them what is wrong, in their sequence.
CALLS = (
    ("give", (("head", 2, InvalidPlace, NO_PLACES), ("number", 1, InvalidCount, NO_NUMBERS))),
    ("trade", (("head", 1, InvalidPlace, NO_PLACES), ("other_head", 4, InvalidPlace, (1, *NO_PLACES)))),
    ("join", (("number", 0, InvalidCount, NO_NUMBERS), ("other_number", 1, InvalidCount, NO_NUMBERS))),
    ("part", (("number", 0, InvalidCount, NO_NUMBERS), ("lot", (0, 1), InvalidLot, NO_LOTS))),
    ("ward_of", (("head", 4, InvalidPlace, NO_PLACES),)),
    ("within", (("low", 6, InvalidBounds, (7, *samples.NO_LOWS)), ("high", 6, InvalidBounds, samples.NO_HIGHS))),
)
SECONDS = 10
EDITS = ("give", "trade", "join", "part")


def state_of(desk):
    """What a desk tells, as PlainDesk.state does."""
    wards = [desk.ward_of(place) for place in range(len(desk.land[0]))]
    return (desk.land, desk.plan, desk.low, desk.high, desk.edits, desk.folk(), desk.cut(), wards)


def ask(desk, name, arguments):
    """What a call answers, in the words of PlainDesk."""
    try:
        answer = getattr(desk, name)(*arguments)
    except WardError as caught:
        return type(caught).__name__
    return "ok" if answer is None else answer


def drawn_call(draw, plan, many):
    """The name of an edit, of undo or of redo, with arguments that are mostly right."""
    name = draw.choice(("give",) * 5 + ("trade",) * 4 + ("join",) * 2 + ("part",) * 3 + ("undo", "undo", "redo"))
    if name in ("undo", "redo"):
        return name, ()
    place, other = draw.randint(-1, many), draw.randrange(many)
    number, other_number = draw.randrange(len(plan)), draw.randint(-1, len(plan))
    if name == "give":
        return name, (place, draw.choice((number, number, other_number)))
    if name == "trade":
        return name, (other, place)
    if name == "join":
        return name, (number, other_number)
    lot = draw.sample(plan[number], draw.randint(1, len(plan[number])))
    return name, (draw.choice((number, number, other_number)), tuple(draw.choice((sorted(lot), sorted(lot), lot))))


class DocumentTest(Asking):
    """The examples of the document."""

    def test_examples(self):
        desk = Desk(LAND, ((0, 1, 2), (3, 4, 5)), 4, 8)
        self.same(
            [desk.could(), desk.give(2, 1), desk.plan, desk.folk(), desk.cut(), desk.trade(1, 3), desk.plan],
            [((0, 1), (2, 1), (3, 0), (5, 0)), None, ((0, 1), (2, 3, 4, 5)), (4, 8), 3, None, ((0, 3), (1, 2, 4, 5))],
        )
        self.same(
            [desk.part(1, (1, 2)), desk.plan, desk.join(0, 2), desk.plan, desk.undo(), desk.edits, desk.ward_of(4)],
            [None, ((0, 3), (1, 2), (4, 5)), None, ((0, 3, 4, 5), (1, 2)), None, 3, 2],
        )


class PlainDeskTest(Asking):
    """Long rows of calls against a plain desk."""

    def test_long_rows(self):
        seen = {}
        for seed in range(60):
            draw = random.Random(seed)
            land = samples.drawn_land(seed, draw.randint(2, 8), draw.choice((30, 60, 100)), most=4)
            whole = sum(land[0])
            low, high = draw.choice(((0, whole), (1, whole), (whole // 5, whole), (0, whole // 2 + 1), (0, 10 ** 89)))
            plans = judge_exchanges.fitting(land, low, high)
            if plans:
                plan = draw.choice(plans)
                self.row_of_calls(draw, Desk(land, plan, low, high), PlainDesk(land, plan, low, high), seen)
        for name in EDITS + ("undo", "redo"):
            self.assertGreater(seen[name, "ok"], 25)
            self.assertGreater(seen[name, "Refused"], 25)

    def row_of_calls(self, draw, desk, plain, seen):
        for _ in range(80):
            name, arguments = drawn_call(draw, plain.plan, len(plain.land[0]))
            before = state_of(desk)
            answer = getattr(plain, name)(*arguments)
            self.same(ask(desk, name, arguments), answer)
            seen[name, answer] = seen.get((name, answer), 0) + 1
            self.same(state_of(desk), plain.state())
            if answer != "ok":
                self.same(state_of(desk), before)
        self.same(desk.could(), plain.could())

    def test_could_of_each_plan(self):
        for seed in range(8):
            land = samples.drawn_land(seed, 4 + seed % 2, 40 + 8 * seed, most=3)
            whole = sum(land[0])
            for low, high in ((0, whole), (whole // 4, whole), (1, whole // 2 + 1)):
                for plan in judge_exchanges.fitting(land, low, high):
                    desk = Desk(land, plan, low, high)
                    self.same(desk.could(), PlainDesk(land, plan, low, high).could())
                    self.same(desk.edits, 0)

    def test_undo_and_redo_to_both_ends_and_beyond(self):
        desk, plain = Desk(LAND, HALVES, 2, 12), PlainDesk(LAND, HALVES, 2, 12)
        for name, arguments in (("give", (2, 1)), ("trade", (1, 3)), ("part", (1, (1, 2))), ("join", (0, 2)),
                                ("give", (0, 1))):
            self.same((ask(desk, name, arguments), getattr(plain, name)(*arguments)), ("ok", "ok"))
        for name, many in (("undo", 7), ("redo", 7), ("undo", 3), ("redo", 1), ("undo", 6), ("redo", 9)):
            for _ in range(many):
                self.same(ask(desk, name, ()), getattr(plain, name)())
                self.same(state_of(desk), plain.state())
        self.same(desk.edits, 5)


class EditTest(Asking):

    def test_give_never_takes_the_only_place_of_a_ward(self):
        land = samples.full((0, 1, 2))
        desk = Desk(land, ((0,), (1, 2)), 0, 9)
        self.raises(Refused, desk.give, 0, 1)
        self.same(desk.plan, ((0,), (1, 2)))
        self.same(desk.could(), ((1, 0), (2, 0)))

    def test_give_parts_no_ward(self):
        desk = Desk(samples.path((1,) * 5), ((0, 1, 2), (3, 4)), 0, 9)
        self.raises(Refused, desk.give, 1, 1)
        self.raises(Refused, desk.give, 0, 1)
        self.same(desk.could(), ((2, 1), (3, 0)))
        self.same(desk.give(2, 1), None)

    def test_give_passes_no_bound(self):
        for low, high, could in ((6, 6, ()), (4, 8, ((0, 1), (2, 1), (3, 0), (5, 0))), (5, 8, ()), (4, 7, ())):
            desk = Desk(LAND, HALVES, low, high)
            self.same(desk.could(), could)
            for place in range(6):
                for number in range(2):
                    if (place, number) not in could:
                        self.raises(Refused, desk.give, place, number)

    def test_a_place_that_is_in_that_ward(self):
        desk = Desk(LAND, HALVES, 0, 12)
        for place in range(6):
            self.raises(Refused, desk.give, place, 0 if place < 3 else 1)

    def test_trade_is_of_two_wards_within_the_bounds(self):
        desk = Desk(samples.full((1, 2, 3, 4)), ((0, 3), (1, 2)), 4, 6)
        self.raises(Refused, desk.trade, 0, 3)
        self.raises(Refused, desk.trade, 3, 1)
        self.same(desk.trade(0, 1), None)
        self.same(desk.plan, ((0, 2), (1, 3)))
        path = Desk(samples.path((1,) * 4), ((0, 1), (2, 3)), 0, 4)
        for one in (0, 1):
            for other in (2, 3):
                self.raises(Refused, path.trade, one, other)

    def test_an_edit_behind_which_the_plan_is_the_same(self):
        desk = Desk(samples.full((1, 1)), ((0,), (1,)), 0, 9)
        self.same(desk.trade(1, 0), None)
        self.same((desk.plan, desk.edits), (((0,), (1,)), 1))
        desk.undo()
        self.same((desk.plan, desk.edits), (((0,), (1,)), 0))
        self.raises(Refused, desk.undo)
        desk.redo()
        self.same(desk.edits, 1)
        self.raises(Refused, desk.redo)

    def test_join_and_part(self):
        path = Desk(samples.path((1, 2, 4, 8)), ((0,), (1,), (2, 3)), 1, 12)
        self.raises(Refused, path.join, 0, 2)
        self.raises(Refused, path.join, 1, 2)
        self.raises(Refused, path.join, 1, 1)
        self.same(path.join(1, 0), None)
        self.same(path.plan, ((0, 1), (2, 3)))
        self.raises(Refused, path.part, 0, (0, 1))
        self.raises(Refused, path.part, 0, (2,))
        self.raises(Refused, path.part, 0, (0, 2))
        self.raises(Refused, path.part, 1, (0,))
        self.same(path.part(1, (3,)), None)
        self.same(path.plan, ((0, 1), (2,), (3,)))
        whole = Desk(samples.path((1, 2, 4, 8)), ((0, 1, 2, 3),), 1, 15)
        self.raises(Refused, whole.part, 0, (1,))
        self.raises(Refused, whole.part, 0, (0, 3))
        self.raises(Refused, whole.within(2, 15).part, 0, (0,))
        self.raises(Refused, whole.within(0, 15).join, 0, 0)
        self.same(whole.part(0, (1, 2, 3)), None)
        self.same(whole.plan, ((0,), (1, 2, 3)))

    def test_wards_stand_in_the_sequence_of_a_plan(self):
        desk = Desk(samples.full((1,) * 4), ((0, 1), (2, 3)), 0, 4)
        desk.trade(0, 3)
        self.same(desk.plan, ((0, 2), (1, 3)))
        desk.part(0, (2,))
        self.same(desk.plan, ((0,), (1, 3), (2,)))
        desk.join(2, 0)
        self.same(desk.plan, ((0, 2), (1, 3)))
        desk.give(0, 1)
        self.same(desk.plan, ((0, 1, 3), (2,)))

    def test_only_an_edit_forgets_what_redo_could_do(self):
        desk = Desk(LAND, HALVES, 4, 8)
        desk.give(2, 1)
        desk.give(2, 0)
        desk.undo()
        for call, arguments in ((desk.give, (0, 0)), (desk.give, (6, 0)), (desk.trade, (0, 1)), (desk.join, (0, 1)),
                                (desk.part, (0, (0, 1))), (desk.within, (9, 8)), (desk.within, (6, 6))):
            with self.assertRaises(WardError):
                call(*arguments)
        self.same((desk.could(), desk.folk(), desk.cut(), desk.ward_of(2)), (desk.could(), (4, 8), 3, 1))
        desk.fork().give(2, 0)
        self.same(desk.redo(), None)
        self.same((desk.plan, desk.edits), (HALVES, 2))
        desk.undo()
        desk.give(2, 0)
        self.raises(Refused, desk.redo)
        self.same((desk.plan, desk.edits), (HALVES, 2))

    def test_nothing_to_take_back_and_nothing_to_do_again(self):
        desk = Desk(LAND, HALVES, 4, 8)
        self.raises(Refused, desk.undo)
        self.raises(Refused, desk.redo)
        self.same(desk.edits, 0)


class NewDeskTest(Asking):

    def test_properties(self):
        desk = Desk(plan=HALVES, high=10 ** 89, low=0, land=LAND)
        self.same((desk.land, desk.plan, desk.low, desk.high, desk.edits), (LAND, HALVES, 0, 10 ** 89, 0))

    def test_a_plan_that_does_not_fit(self):
        for low, high in ((7, 8), (0, 5), (12, 12), (0, 0)):
            self.raises(Refused, Desk, LAND, HALVES, low, high)
            desk = Desk(LAND, HALVES, 6, 6)
            self.raises(Refused, desk.within, low, high)
        self.raises(Refused, Desk, samples.LAND, samples.PLAN, 8, 12)
        self.same(Desk(samples.LAND, samples.PLAN, 7, 11).folk(), (7, 11))

    def test_wrong_arguments(self):
        for land, place in samples.NO_LANDS:
            self.raises(InvalidLand, Desk, land, (), 9, 8, field="place", worth=place)
        for plan, index in samples.NO_PLANS:
            self.raises(InvalidPlan, Desk, samples.LAND, plan, 9, 8, field="index", worth=index)
        for low in (13, *samples.NO_LOWS):
            self.raises(InvalidBounds, Desk, samples.LAND, samples.PLAN, low, 12)
        for high in samples.NO_HIGHS:
            self.raises(InvalidBounds, Desk, samples.LAND, samples.PLAN, 6, high)
        # Refused stands behind the bounds.
        self.raises(InvalidBounds, Desk, samples.LAND, samples.PLAN, 9, 8)

    def test_any_value(self):
        for value in samples.ANY_VALUES:
            self.raises(InvalidLand, Desk, value, samples.PLAN, 6, 12, field="place", worth=())
            self.raises(InvalidPlan, Desk, samples.LAND, value, 6, 12, field="index", worth=0)
            if type(value) is not int or value < 0:
                self.raises(InvalidBounds, Desk, samples.LAND, samples.PLAN, value, 12)
                self.raises(InvalidBounds, Desk, samples.LAND, samples.PLAN, 6, value)

    def test_a_list_is_no_tuple(self):
        self.raises(InvalidLand, Desk, list(LAND), HALVES, 4, 8, field="place", worth=())
        self.raises(InvalidPlan, Desk, LAND, list(HALVES), 4, 8, field="index", worth=0)
        self.raises(InvalidPlan, Desk, LAND, ((0, 1, 2), [3, 4, 5]), 4, 8, field="index", worth=1)

    def test_within_and_fork(self):
        desk = Desk(LAND, HALVES, 4, 8)
        desk.give(2, 1)
        desk.give(2, 0)
        desk.undo()
        for other in (desk.fork(), desk.within(4, 8), desk.within(0, 10 ** 89)):
            self.assertIs(type(other), Desk)
            self.same((other.land, other.plan, other.edits), (LAND, desk.plan, 0))
            self.raises(Refused, other.undo)
            self.raises(Refused, other.redo)
            self.same(other.give(2, 0), None)
            self.same((desk.plan, desk.edits), (((0, 1), (2, 3, 4, 5)), 1))
        self.same((desk.fork().low, desk.fork().high), (4, 8))
        self.same((desk.within(3, 9).low, desk.within(3, 9).high, desk.low, desk.high), (3, 9, 4, 8))
        self.same(desk.redo(), None)
        self.same(desk.plan, HALVES)


class RulesTest(Asking):
    """Promises [2], [3] and [4] of the methods."""

    def test_by_position_and_by_name(self):
        for name, told in CALLS:
            one, other = Desk(FULL, HALVES, 2, 12), Desk(FULL, HALVES, 2, 12)
            found = getattr(one, name)(*[right for _, right, _, _ in told])
            named = getattr(other, name)(**{word: right for word, right, _, _ in told})
            self.same(type(found), type(named))
            self.same(state_of(one), state_of(other))
            if name in EDITS:
                self.assertIsNone(found)
                self.assertEqual(one.edits, 1)

    def test_calls_of_which_no_result_is_told_return_none(self):
        desk = Desk(LAND, HALVES, 2, 12)
        self.same([desk.give(2, 1), desk.trade(1, 3), desk.part(0, (0,)), desk.join(0, 1), desk.undo(), desk.redo()],
                  [None] * 6)

    def test_each_wrong_argument_alone(self):
        for name, told in CALLS:
            for k in range(len(told)):
                for value in told[k][3]:
                    arguments = [right for _, right, _, _ in told]
                    arguments[k] = value
                    self.refused(told[k][2], name, arguments)

    def test_any_value(self):
        for name, told in CALLS:
            for k, (word, _, error, _) in enumerate(told):
                for value in samples.ANY_VALUES:
                    if word in ("low", "high") and type(value) is int and value >= 6:
                        continue
                    arguments = [right for _, right, _, _ in told]
                    arguments[k] = value
                    self.refused(error, name, arguments)

    def test_of_two_wrong_arguments_the_first_one_tells_the_error(self):
        for name, told in CALLS:
            if len(told) == 2:
                for value in told[0][3]:
                    for other in told[1][3]:
                        self.refused(told[0][2], name, [value, other])

    def refused(self, error, name, arguments):
        desk = Desk(FULL, HALVES, 2, 12)
        desk.give(2, 1)
        desk.give(2, 0)
        desk.trade(2, 3)
        desk.trade(3, 2)
        desk.undo()
        desk.undo()
        before = repr(state_of(desk))
        kept = repr(arguments)
        self.raises(error, getattr(desk, name), *arguments)
        self.assertEqual(repr(arguments), kept)
        self.assertEqual(repr(state_of(desk)), before)
        self.same(desk.redo(), None)

    def test_errors_of_the_parameters_stand_ahead_of_refused(self):
        desk = Desk(LAND, HALVES, 6, 6)
        self.raises(InvalidCount, desk.give, 0, 2)
        self.raises(InvalidPlace, desk.trade, 0, 0)
        self.raises(InvalidCount, desk.join, 0, 2)
        self.raises(InvalidCount, desk.join, 2, 2)
        self.raises(InvalidLot, desk.part, 0, (2, 1))
        self.raises(Refused, desk.part, 0, (3, 4))
        self.raises(InvalidBounds, desk.within, 9, 8)

    def test_what_is_done_to_one_desk_changes_no_other_one(self):
        desks = [Desk(LAND, HALVES, 4, 8) for _ in range(3)]
        desks[0].give(2, 1)
        self.same([desk.plan for desk in desks[1:]], [HALVES, HALVES])
        desks[1].give(0, 1)
        desks[1].undo()
        self.raises(Refused, desks[2].redo)
        self.raises(Refused, desks[2].undo)
        self.same([desk.edits for desk in desks], [1, 0, 0])

    def test_equal_histories_answer_alike(self):
        for seed in range(5):
            rows = []
            for _ in range(2):
                draw = random.Random(seed)
                desk = Desk(LAND, HALVES, 2, 10)
                row = []
                for _ in range(40):
                    name, arguments = drawn_call(draw, desk.plan, 6)
                    row.append((ask(desk, name, arguments), state_of(desk), desk.could()))
                rows.append(repr(row))
            self.assertEqual(rows[0], rows[1])

    def test_two_places_and_twelve(self):
        for folk in ((0, 1000000), (1000000, 0)):
            for land in (samples.full(folk), samples.empty(folk)):
                desk = Desk(land, ((0,), (1,)), 0, 1000000)
                self.same((desk.could(), desk.cut(), desk.folk()), ((), len(land[1]), folk))
                self.same(ask(desk, "join", (0, 1)), "ok" if land[1] else "Refused")
        for land in samples.TWELVES:
            alone = tuple((k,) for k in range(12))
            began = time.monotonic()
            desk = Desk(land, alone, 0, 12000000)
            for one, other in combinations(range(11), 2):
                ask(desk, "trade", (one, other))
                ask(desk, "join", (0, 1))
                desk.could()
                ask(desk, "part", (0, desk.plan[0][:1]))
            while desk.edits:
                desk.undo()
            self.same(desk.plan, alone)
            self.assertLess(time.monotonic() - began, SECONDS)


class FactHTest(Asking):
    """Fact H."""

    def test_the_plan_is_always_one_of_the_land_within_the_bounds(self):
        for seed in range(20):
            draw = random.Random(seed)
            land = samples.drawn_land(seed, 6, 60, most=5)
            low, high = sum(land[0]) // 8, sum(land[0])
            plans = judge_exchanges.fitting(land, low, high)
            if not plans:
                continue
            desk = Desk(land, draw.choice(plans), low, high)
            for _ in range(50):
                name, arguments = drawn_call(draw, desk.plan, 6)
                ask(desk, name, arguments)
                self.assertTrue(is_plan(land, desk.plan))
                self.assertTrue(all(low <= folk <= high for folk in desk.folk()))

    def test_what_give_takes_are_just_the_exchanges(self):
        for seed in range(10):
            land = samples.drawn_land(seed, 5, 30 + 7 * seed, most=5)
            whole = sum(land[0])
            for low, high in ((0, whole), (whole // 4, whole), (whole // 3, whole // 2 + 2)):
                for plan in judge_exchanges.fitting(land, low, high):
                    found = []
                    for place, number in Desk(land, plan, low, high).could():
                        desk = Desk(land, plan, low, high)
                        desk.give(place, number)
                        found.append(desk.plan)
                    self.same(tuple(sorted(found)), near(land, plan, low, high))
                    self.assertTrue(all(len(other) == len(plan) for other in found))
        self.assertEqual(judge.joined(samples.LAND, (0, 3)), False)


if __name__ == "__main__":
    unittest.main()
