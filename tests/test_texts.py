"""Promise [17]: lands, plans and tapes as texts."""

import random
import time
import unittest
from itertools import permutations

from tests import judge, judge_texts, samples
from tests.asking import Asking
from wardsdrawn.errors import InvalidLand, InvalidPlan, InvalidText, Twice
from wardsdrawn.lands import land_fault, plan_fault
from wardsdrawn.texts import land_text, land_told, plan_text, plan_told, tape_text, tape_told

LAND = ((5, 2, 0, 7), ((0, 1), (1, 3), (2, 3)))
LANDS = [*judge.lands((2, 0, 5)), *judge.lands((3, 1, 0, 12))[::5], samples.LAND, *samples.TWELVES]
SIGNS = ("0", "1", "7", " ", "\n", ":", "-", "a", "f", "k", "\t", "\r", "\u0661", "\u00b2")
NO_STRINGS = [value for value in samples.ANY_VALUES if type(value) is not str] + [b"0", b"folk 1 1", 5, ["folk 1 1"]]
SECONDS = 10


class TextCase(Asking):

    def judged(self, call, form, known, text, told_of):
        """A text is told, or refused with the index of the sign, as the plain judge says; told_of tells what else."""
        index = judge_texts.form_index(form, known, text)
        if index is not None:
            self.raises(InvalidText, call, text, field="index", worth=index)
            return "form"
        return told_of(text)

    def judged_land(self, text):
        return self.judged(land_told, judge_texts.LAND, judge_texts.LANDS, text, self.land_of_form)

    def land_of_form(self, text):
        twice = judge_texts.first_twice(judge_texts.borders_told(text))
        if twice is not None:
            self.raises(Twice, land_told, text, field="word", worth=f"{twice[0]}-{twice[1]}")
            return "twice"
        land = judge_texts.land_of(text)
        if land_fault(land) is not None:
            self.raises(InvalidLand, land_told, text, field="place", worth=land_fault(land))
            return "fault"
        self.same(land_told(text), land)
        return "right"

    def judged_plan(self, land, text):
        return self.judged(lambda told: plan_told(land, told), judge_texts.PLAN, judge_texts.PLANS, text,
                           lambda told: self.plan_of_form(land, told))

    def plan_of_form(self, land, text):
        twice = judge_texts.first_twice([place for row in judge_texts.rows_of(text) for place in row])
        if twice is not None:
            self.raises(Twice, plan_told, land, text, field="word", worth=str(twice))
            return "twice"
        plan = judge_texts.plan_of(text)
        if plan_fault(land, plan) is not None:
            self.raises(InvalidPlan, plan_told, land, text, field="index", worth=plan_fault(land, plan))
            return "fault"
        self.same(plan_told(land, text), plan)
        return "right"

    def judged_tape(self, text):
        return self.judged(tape_told, judge_texts.TAPE, judge_texts.TAPES, text, self.tape_of_form)

    def tape_of_form(self, text):
        self.same(tape_told(text), tuple(tuple(row) for row in judge_texts.rows_of(text)) if text else ())
        return "right"


class DocumentTest(Asking):
    """The examples of the document."""

    def test_examples(self):
        land = land_told("folk 5 2 0 7\n3: 2 1\n0: 1")
        self.same([land, land_text(land)],
                  [((5, 2, 0, 7), ((0, 1), (1, 3), (2, 3))), "folk 5 2 0 7\n0: 1\n1: 3\n2: 3"])
        self.same([plan_told(land, "3 2\n1 0"), plan_text(land, ((0, 1), (2, 3))), tape_told("0 12 3 1")],
                  [((0, 1), (2, 3)), "0 1\n2 3", ((0, 12, 3, 1),)])
        self.raises(Twice, land_told, "folk 1 1\n0: 1\n1: 0", field="word", worth="0-1")
        self.raises(InvalidText, land_told, "folk 1 01", field="index", worth=8)


class LandTextTest(TextCase):

    def test_there_and_back(self):
        for land in LANDS:
            self.same(land_text(land), judge_texts.land_text(land))
            self.same(land_told(land_text(land)), land)
            self.assertEqual(self.judged_land(land_text(land)), "right")

    def test_each_change_of_a_text(self):
        many = {}
        for text in ("folk 5 12\n0: 1", "folk 1 0 3\n2: 1 0\n0: 1", "folk 10 0 1000000\n0: 1 2"):
            for other in judge_texts.changed(text, SIGNS):
                kind = self.judged_land(other)
                many[kind] = many.get(kind, 0) + 1
        self.assertGreater(many["form"], 1000)
        self.assertGreater(min(many.values()), 5)
        self.assertEqual(set(many), {"form", "twice", "fault", "right"})

    def test_drawn_texts(self):
        draw = random.Random(17)
        many = {}
        for _ in range(600):
            lines = ["folk " + " ".join(str(draw.randint(0, 12)) for _ in range(draw.randint(1, 5)))]
            for _ in range(draw.randint(0, 4)):
                others = [str(draw.randint(0, 4)) for _ in range(draw.randint(1, 2))]
                lines.append(f"{draw.randint(0, 4)}: " + " ".join(others))
            kind = self.judged_land("\n".join(lines))
            many[kind] = many.get(kind, 0) + 1
        self.assertGreater(min(many[kind] for kind in ("twice", "fault", "right")), 30)

    def test_where_no_text_goes_on(self):
        for text, index in (
            ("", 0), ("f", 1), ("folk", 4), ("folk ", 5), ("folks", 4), ("Folk 1", 0), (" folk 1", 0), ("fölk 1", 1),
            ("folk\n1", 4), ("folk  1", 5), ("folk 1 ", 7), ("folk 1  1", 7), ("folk 1\n", 7), ("folk 1\n\n0: 1", 7),
            ("folk 1 1\n0", 10), ("folk 1 1\n0:", 11), ("folk 1 1\n0: ", 12), ("folk 1 1\n0 1", 10),
            ("folk 1 1\n0:1", 11), ("folk 1 1\n0 : 1", 10), ("folk 1 1\n0: 1\n", 14), ("folk 1 1\n0: 1 ", 14),
            ("folk 1 1\n00: 1", 10), ("folk 1 1\n0: 01", 13), ("folk 1 -1", 7), ("folk 1 +1", 7), ("folk 1 1.0", 8),
            ("folk 1234567890123", 17), ("folk 1 1\n1234567890123: 1", 21), ("folk 1 1\n0: 1234567890123", 24),
            ("folk 1 1\r\n0: 1", 8), ("folk 1\t1", 6), ("folk 1 1\nfolk 1 1", 9), ("folk 1 1\n: 1", 9),
            ("folk \u0661 1", 5), ("folk 1 1\n0: 1\nx", 14), ("folk 1 1\n0: 1:", 13), ("folk 00", 6),
        ):
            self.raises(InvalidText, land_told, text, field="index", worth=index)
            self.assertEqual(judge_texts.form_index(judge_texts.LAND, judge_texts.LANDS, text), index)

    def test_twelve_digits_are_form(self):
        self.raises(InvalidLand, land_told, "folk 999999999999 1", field="place", worth=(0, 0))
        self.raises(InvalidLand, land_told, "folk 1 1\n999999999999: 1", field="place", worth=(1, 0))
        self.raises(Twice, land_told, "folk 1 1\n999999999999: 1\n1: 999999999999", field="word",
                    worth="1-999999999999")

    def test_how_many_numbers_there_are_is_no_form(self):
        self.raises(InvalidLand, land_told, "folk 1", field="place", worth=(0,))
        self.raises(InvalidLand, land_told, "folk" + " 1" * 13, field="place", worth=(0,))
        self.raises(InvalidLand, land_told, "folk 1 1\n0: 1 2 3 4", field="place", worth=(1, 1))

    def test_no_string(self):
        for value in NO_STRINGS:
            self.raises(InvalidText, land_told, value, field="index", worth=0)

    def test_twice_ahead_of_invalid_land(self):
        self.raises(Twice, land_told, "folk 1\n5: 7\n7: 5", field="word", worth="5-7")
        self.raises(Twice, land_told, "folk 1 1\n3: 3 3", field="word", worth="3-3")
        self.raises(Twice, land_told, "folk 1 1 1\n2: 0 1\n1: 2\n0: 2", field="word", worth="1-2")
        self.raises(Twice, land_told, "folk 1 1 1\n0: 12\n12: 0\n1: 1 1", field="word", worth="0-12")
        # Form stands ahead of all.
        self.raises(InvalidText, land_told, "folk 1 1\n0: 1\n1: 0\n", field="index", worth=19)

    def test_a_land_that_is_none(self):
        for text, place in (("folk 1 1000001", (0, 1)), ("folk 1 1\n0: 0", (1, 0)), ("folk 1 1\n0: 2\n1: 0", (1, 1)),
                            ("folk 1 1\n1: 1\n0: 1", (1, 1)), ("folk 1 1000001\n5: 6", (0, 1))):
            self.raises(InvalidLand, land_told, text, field="place", worth=place)

    def test_wrong_lands(self):
        for value, place in samples.NO_LANDS:
            self.raises(InvalidLand, land_text, value, field="place", worth=place)

    def test_a_long_text(self):
        began = time.monotonic()
        self.raises(InvalidLand, land_told, "folk" + " 1" * 9998, field="place", worth=(0,))
        self.raises(InvalidText, land_told, "folk" + " 1" * 9997 + "  ", field="index", worth=19999)
        self.raises(InvalidText, land_told, "0" * 20000, field="index", worth=0)
        self.raises(InvalidText, land_told, "folk " + "1" * 19995, field="index", worth=17)
        lines = "".join(f"\n0: {k}" for k in range(1, 2500))
        self.raises(InvalidLand, land_told, "folk 1 1" + lines, field="place", worth=(1, 1))
        self.raises(Twice, land_told, "folk 1 1" + lines + "\n2400: 0", field="word", worth="0-2400")
        self.assertLess(time.monotonic() - began, SECONDS)


class PlanTextTest(TextCase):

    def test_there_and_back(self):
        for land in LANDS[:-7]:
            for plan in judge.plans(land):
                self.same(plan_text(land, plan), judge_texts.rows_text(plan))
                self.same(plan_told(land, plan_text(land, plan)), plan)
        for land in samples.TWELVES:
            alone = tuple((k,) for k in range(12))
            self.same(plan_text(land, alone), "0\n1\n2\n3\n4\n5\n6\n7\n8\n9\n10\n11")
            self.same(plan_told(land, plan_text(land, alone)), alone)

    def test_each_change_of_a_text(self):
        many = {}
        ring = samples.ring_of((1,) * 4)
        for land, text in ((ring, "0 1\n2 3"), (ring, "0 3 1\n2"), (ring, "3\n2\n1 0"), (ring, "2 0 1 3"),
                           (samples.full((1,) * 12), "0 1 2 3 4 5 6\n11 10 9\n7 8")):
            for other in judge_texts.changed(text, SIGNS):
                kind = self.judged_plan(land, other)
                many[kind] = many.get(kind, 0) + 1
        self.assertGreater(min(many.values()), 20)
        self.assertEqual(set(many), {"form", "twice", "fault", "right"})

    def test_where_no_text_goes_on(self):
        for text, index in (("", 0), ("0 ", 2), ("0 1\n", 4), ("\n0", 0), (" 0", 0), ("0\n\n1", 2), ("0  1", 2),
                            ("00", 1), ("01 2", 1), ("0 1\n 2", 4), ("0 1,2", 3), ("0 1\n2 3\n", 8), ("-1", 0),
                            ("1234567890123", 12), ("0 1\n2 3x", 7), ("0\t1", 1), ("0 1\r\n2", 3), ("0: 1", 1)):
            self.raises(InvalidText, plan_told, LAND, text, field="index", worth=index)
            self.assertEqual(judge_texts.form_index(judge_texts.PLAN, judge_texts.PLANS, text), index)

    def test_no_string(self):
        for value in NO_STRINGS:
            self.raises(InvalidText, plan_told, LAND, value, field="index", worth=0)

    def test_twice_ahead_of_invalid_plan(self):
        self.raises(Twice, plan_told, LAND, "9 9", field="word", worth="9")
        self.raises(Twice, plan_told, LAND, "0 1\n2 3\n3 1", field="word", worth="3")
        self.raises(Twice, plan_told, LAND, "0 11 2\n11 0", field="word", worth="11")
        self.raises(Twice, plan_told, LAND, "999999999999\n999999999999", field="word", worth="999999999999")

    def test_a_plan_that_is_none(self):
        for text, index in (("0 1\n2", 2), ("0 1 3\n2 4", 1), ("3 2\n0", 2), ("0 2\n1 3", 0), ("999999999999", 0),
                            ("0 1\n2\n3 12", 2)):
            self.raises(InvalidPlan, plan_told, LAND, text, field="index", worth=index)

    def test_the_land_is_asked_first(self):
        for value, place in samples.NO_LANDS:
            for text in (None, "", "0 0", "7"):
                self.raises(InvalidLand, plan_told, value, text, field="place", worth=place)
            self.raises(InvalidLand, plan_text, value, None, field="place", worth=place)
        for value, index in samples.NO_PLANS:
            self.raises(InvalidPlan, plan_text, samples.LAND, value, field="index", worth=index)

    def test_a_long_text(self):
        began = time.monotonic()
        self.raises(InvalidPlan, plan_told, LAND, "\n".join(map(str, range(4000))), field="index", worth=4)
        self.raises(InvalidPlan, plan_told, LAND, " ".join(map(str, range(4000))), field="index", worth=0)
        self.raises(Twice, plan_told, LAND, "0 " * 9999 + "0", field="word", worth="0")
        self.raises(InvalidText, plan_told, LAND, "0\n" * 10000, field="index", worth=20000)
        self.assertLess(time.monotonic() - began, SECONDS)


class TapeTextTest(TextCase):

    def test_there_and_back(self):
        draw = random.Random(4)
        for many in (0, 1, 2, 7, 200):
            tape = tuple(tuple(draw.choice((0, 1, draw.randrange(10 ** 12), 10 ** 12 - 1)) for _ in range(4))
                         for _ in range(many))
            self.same(tape_text(tape), judge_texts.rows_text(tape))
            self.same(tape_told(tape_text(tape)), tape)

    def test_the_empty_text(self):
        self.same(tape_told(""), ())
        self.same(tape_text(()), "")

    def test_more_than_two_hundred_steps(self):
        self.same(tape_told("\n".join(["1 2 3 4"] * 201)), ((1, 2, 3, 4),) * 201)
        self.same(tape_told("\n".join(["0 0 0 0"] * 2500)), ((0, 0, 0, 0),) * 2500)

    def test_each_change_of_a_text(self):
        many = {}
        for text in ("0 12 3 1", "1 2 3 4\n5 6 7 10", "123456789012 0 0 123456789012"):
            for other in judge_texts.changed(text, SIGNS):
                kind = self.judged_tape(other)
                many[kind] = many.get(kind, 0) + 1
        self.assertGreater(min(many["form"], many["right"]), 20)

    def test_where_no_text_goes_on(self):
        for text, index in (("0", 1), ("0 0 0", 5), ("0 0 0 ", 6), ("0 0 0\n0", 5), ("0 0 0 0 0", 7), ("0 0 0 0 ", 7),
                            ("0 0 0 0\n", 8), ("0 0 0 0\n0", 9), ("\n", 0), (" ", 0), ("0 0  0", 4), ("0 0 0 00", 7),
                            ("0 0 0 1234567890123", 18), ("0 0 -1 0", 4), ("0 0 0 0\n\n0 0 0 0", 8)):
            self.raises(InvalidText, tape_told, text, field="index", worth=index)
            self.assertEqual(judge_texts.form_index(judge_texts.TAPE, judge_texts.TAPES, text), index)

    def test_no_string(self):
        for value in NO_STRINGS:
            self.raises(InvalidText, tape_told, value, field="index", worth=0)


class FactXTest(TextCase):
    """Fact X."""

    def test_lines_and_numbers_in_any_sequence(self):
        draw = random.Random(23)
        for seed in range(60):
            land = samples.drawn_land(seed, draw.randint(2, 12), 40, most=99)
            plan = tuple(tuple(ward) for ward in [[place] for place in judge.places_of(land)])
            found = {}
            for low, high in land[1]:
                place, other = draw.choice(((low, high), (high, low)))
                # A place may have more lines than one.
                found.setdefault((place, draw.randrange(2)), []).append(other)
            lines = []
            for (place, _), others in found.items():
                lines.append(f"{place}: " + " ".join(map(str, draw.sample(others, len(others)))))
            text = "\n".join([land_text(land).split("\n")[0], *draw.sample(lines, len(lines))])
            self.same(land_told(text), land)
            self.assertEqual(self.judged_land(text) if len(text) < 60 else "right", "right")
            rows = draw.sample(plan, len(plan))
            self.same(plan_told(land, judge_texts.rows_text(rows)), plan)

    def test_wards_in_each_sequence(self):
        land = samples.full((1,) * 4)
        for plan in judge.plans(land):
            for rows in permutations(plan):
                turned = [row[::-1] for row in rows]
                self.same(plan_told(land, judge_texts.rows_text(rows)), plan)
                self.same(plan_told(land, judge_texts.rows_text(turned)), plan)


if __name__ == "__main__":
    unittest.main()
