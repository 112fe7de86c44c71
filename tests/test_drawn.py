"""Promise [18]: pictures of lands and plans in signs."""

import time
import unittest
from fractions import Fraction
from itertools import permutations

from tests import judge, samples
from tests.asking import Asking
from tests.judge_texts import changed
from wardsdrawn.drawn import arcs, arcs_told, bars, listed, square
from wardsdrawn.errors import InvalidCount, InvalidPart

LAND = ((5, 2, 0, 4), ((0, 1), (0, 2), (1, 2), (2, 3)))
PLAN = ((0, 1), (2, 3))
LANDS = [*judge.lands((4, 1)), *judge.lands((2, 0, 5)), *judge.lands((0, 0, 0))[::3], *judge.lands((3, 1, 0, 12))[::5],
         samples.LAND, samples.full((1, 2, 3, 4, 5)), samples.drawn_land(6, 5, 60, most=1000000)]
ALONE = tuple((k,) for k in range(12))
SECONDS = 10

NO_FOLK = ([5, 2], (), (5,), (1,) * 13, (5, -1), (5, 1000001), (True, 2), (5, False), (5, None), ("5", 2), (5, (2,)),
           None, 7, True, "52", (5, 10 ** 89))
# Of the folk (5, 2, 1), of which ("+-+..", "..+-+", "a a a") is a picture.
FOLK, ROWS = (5, 2, 1), ("+-+..", "..+=+", "a a b")
NO_ROWS = (
    [*ROWS], (), None, 7, True, "a a b", ROWS[:-1], ROWS[1:], ROWS[::-1], ROWS + ROWS[-1:], ROWS[:1] + ROWS,
    ROWS[2:] * 2,
    ("..+=+", "+-+..", "a a b"), ("+-+..", "..+-+", "a a b"), ("+=+..", "..+=+", "a a b"),
    ("+-+..", "..+=+", "b b a"), ("+-+..", "..+=+", "a a c"), ("+-+..", "..+=+", "b b c"), ("+-+..", "..+=+", "a a A"),
    ("+-+..", "..+=+", "a a m"), ("+-+..", "..+=+", "aaab"), ("+-+..", "..+=+", "a a b "), ("+-+..", "..+=+", "a-a b"),
    ("+-+...", "..+=+", "a a b"), ("+-+.", "..+=+", "a a b"), ("+-+..", "..+=+", ""), ("+-+..", "..+=+", "a a a"),
    ("+-+..", "+=+=+", "a a b"), ("+-+..", ".....", "a a b"), ("+-+..", "+....", "a a b"), ("+-+..", ".+=+.", "a a b"),
    ("+-+..", "..+=+", "a b c"), (".....", "..+=+", "a a b"), ("+.+..", "..+=+", "a a b"), ("+-+  ", "..+=+", "a a b"),
    ("+-+..", ["..+=+"], "a a b"), ("+-+..", None, "a a b"), ("+-+..", "..+=+", 7), ("+-+..", b"..+=+", "a a b"),
    ("+-+..", ("..+=+",), "a a b"), ("+-+....", "..+=+..", "a a b b"), ("+-+", "a a"),
    ("+-+..", "+---+", "..+=+", "a a b"), ("+-+..", "+-+..", "..+=+", "a a b"), ("+++..", "..+=+", "a a b"),
)


def letter(k):
    return chr(ord("a") + k)


def ward_index(plan, place):
    return next(k for k, ward in enumerate(plan) if place in ward)


def plain_square(land, plan):
    rows = []
    for one in judge.places_of(land):
        row = ""
        for other in judge.places_of(land):
            alike = ward_index(plan, one) == ward_index(plan, other)
            if one == other:
                row += letter(ward_index(plan, one))
            elif judge.linked(land, one, other):
                row += "-" if alike else "#"
            else:
                row += "."
        rows.append(row)
    return tuple(rows)


def plain_bars(land, plan, wide):
    folk = [judge.folk_of(land, ward) for ward in plan]
    rows = []
    for k, many in enumerate(folk):
        row = ""
        for at in range(wide):
            bar = Fraction(wide * many, max(folk)) if max(folk) else 0
            row += "#" if bar >= at + 1 else "+" if at < bar < at + 1 else "."
        rows.append(f"{letter(k)} {row}")
    return tuple(rows)


def plain_listed(land, plan):
    return tuple(" ".join([letter(k), str(judge.folk_of(land, ward)), ":", *map(str, ward)])
                 for k, ward in enumerate(plan))


def plain_arcs(land, plan):
    rows = []
    for low, high in land[1]:
        row = ["."] * (2 * len(land[0]) - 1)
        alike = ward_index(plan, low) == ward_index(plan, high)
        row[2 * low:2 * high + 1] = ["-" if alike else "="] * (2 * (high - low) + 1)
        row[2 * low] = row[2 * high] = "+"
        rows.append("".join(row))
    return (*rows, " ".join(letter(ward_index(plan, place)) for place in judge.places_of(land)))


def cases():
    return [(land, plan) for land in LANDS for plan in judge.plans(land)]


class DocumentTest(Asking):
    """The examples of the document."""

    def test_examples(self):
        self.same([square(LAND, PLAN), bars(LAND, PLAN, 5), listed(LAND, PLAN)],
                  [("a-#.", "-a#.", "##b-", "..-b"), ("a #####", "b ##+.."), ("a 7 : 0 1", "b 4 : 2 3")])
        self.same(arcs(LAND, PLAN), ("+-+....", "+===+..", "..+=+..", "....+-+", "a a b b"))
        self.same(arcs_told((5, 2), ("+-+", "a a")), (((5, 2), ((0, 1),)), ((0, 1),)))


class PicturesTest(Asking):

    def test_small_lands(self):
        for land, plan in cases():
            self.same(square(land, plan), plain_square(land, plan))
            self.same(listed(land, plan), plain_listed(land, plan))
            self.same(arcs(land, plan), plain_arcs(land, plan))
            for wide in (1, 2, 3, 7):
                self.same(bars(land, plan, wide), plain_bars(land, plan, wide))

    def test_each_width(self):
        plan = ((0,), (1,), (2, 3))
        for wide in range(1, 101):
            self.same(bars(LAND, plan, wide), plain_bars(LAND, plan, wide))

    def test_widths_at_their_limits(self):
        self.same(bars(LAND, PLAN, 1), ("a #", "b +"))
        self.same(bars(LAND, PLAN, 100), ("a " + "#" * 100, "b " + "#" * 57 + "+" + "." * 42))
        for wide in (0, 101, -1, 10 ** 89, True, False, None, "5", (5,), [5], ()):
            self.raises(InvalidCount, bars, LAND, PLAN, wide)

    def test_bars_are_not_rounded(self):
        land = samples.full((1000000, 1, 999999, 500000))
        self.same(bars(land, ((0,), (1,), (2,), (3,)), 2), ("a ##", "b +.", "c #+", "d #."))
        self.same(bars(land, ((0,), (1,), (2,), (3,)), 1), ("a #", "b +", "c +", "d +"))

    def test_a_single_folk(self):
        land = samples.full((0, 1, 0, 1))
        self.same(bars(land, ((0,), (1,), (2,), (3,)), 3), ("a ...", "b ###", "c ...", "d ###"))
        self.same(bars(land, ((0,), (1, 3), (2,)), 3), ("a ...", "b ###", "c ..."))
        self.same(bars(land, ((0, 1, 2, 3),), 1), ("a #",))

    def test_wards_of_no_folk(self):
        land = samples.full((0, 3, 0))
        self.same(bars(land, ((0,), (1,), (2,)), 3), ("a ...", "b ###", "c ..."))
        land = samples.full((0, 0, 0))
        self.same(bars(land, ((0,), (1, 2)), 3), ("a ...", "b ..."))
        self.same(bars(land, ((0, 1, 2),), 1), ("a .",))
        self.same(listed(land, ((0,), (1, 2))), ("a 0 : 0", "b 0 : 1 2"))

    def test_no_border(self):
        land = samples.empty((1, 2))
        self.same(square(land, ((0,), (1,))), ("a.", ".b"))
        self.same(arcs(land, ((0,), (1,))), ("a b",))
        self.same(arcs_told((1, 2), ("a b",)), (land, ((0,), (1,))))

    def test_twelve_wards(self):
        for land in samples.TWELVES:
            began = time.monotonic()
            self.same(square(land, ALONE), plain_square(land, ALONE))
            self.same(bars(land, ALONE, 100), plain_bars(land, ALONE, 100))
            self.same(listed(land, ALONE), plain_listed(land, ALONE))
            self.same(arcs(land, ALONE), plain_arcs(land, ALONE))
            self.same(arcs_told(land[0], arcs(land, ALONE)), (land, ALONE))
            self.assertLess(time.monotonic() - began, SECONDS)
        self.same(arcs(land, ALONE)[-1], "a b c d e f g h i j k l")


class ArcsToldTest(Asking):

    def told(self, folk, rows, known):
        """The land and the plan where the rows are one of the known pictures, else InvalidPart."""
        if rows in known:
            self.same(arcs_told(folk, rows), known[rows])
        else:
            self.raises(InvalidPart, arcs_told, folk, rows)

    def test_each_change_of_a_picture(self):
        folk = (3, 0, 2)
        known = {arcs(land, plan): (land, plan) for land in judge.lands(folk) for plan in judge.plans(land)}
        right = 0
        for rows in list(known):
            for text in changed("\n".join(rows), "+-=. abcA"):
                told = tuple(text.split("\n"))
                self.told(folk, told, known)
                right += told in known
        self.assertGreater(right, 20)

    def test_rows_in_another_sequence(self):
        for land, plan in cases():
            rows = arcs(land, plan)
            if len(rows) < 5:
                for turn in set(permutations(rows)):
                    if turn == rows:
                        self.same(arcs_told(land[0], turn), (land, plan))
                    else:
                        self.raises(InvalidPart, arcs_told, land[0], turn)

    def test_folk_of_another_number_of_places(self):
        for land, plan in cases():
            rows = arcs(land, plan)
            self.raises(InvalidPart, arcs_told, land[0] + (1,), rows)
            self.raises(InvalidPart, arcs_told, land[0][:-1], rows)
            other = tuple(number + 1 for number in land[0][::-1])
            if max(other) <= 1000000:
                self.same(arcs_told(other, rows), ((other, land[1]), plan))

    def test_letters_in_another_sequence(self):
        land = samples.full((1, 1, 1))
        for letters in ("b a a", "a c b", "b a c", "c b a", "a a c", "b b b"):
            wards = tuple("-" if letters[2 * low] == letters[2 * high] else "=" for low, high in land[1])
            rows = (f"+{wards[0]}+..", f"+{wards[1] * 3}+", f"..+{wards[2]}+", letters)
            self.raises(InvalidPart, arcs_told, (1, 1, 1), rows)

    def test_wards_that_do_not_hang_together(self):
        self.raises(InvalidPart, arcs_told, (1, 1, 1), ("+=+..", "..+=+", "a b a"))
        self.raises(InvalidPart, arcs_told, (1, 1), ("a a",))
        self.same(arcs_told((1, 1), ("a b",)), (((1, 1), ()), ((0,), (1,))))

    def test_no_folk_and_no_rows(self):
        self.same(arcs_told(FOLK, ROWS), ((FOLK, ((0, 1), (1, 2))), ((0, 1), (2,))))
        for folk in NO_FOLK:
            self.raises(InvalidPart, arcs_told, folk, ROWS)
            self.raises(InvalidPart, arcs_told, folk, None)
        for rows in NO_ROWS:
            self.raises(InvalidPart, arcs_told, FOLK, rows)

    def test_many_rows_and_long_ones(self):
        began = time.monotonic()
        for rows in (("+-+..",) * 5999, ("+" * 20000,), ("a a b",) * 6000, ("",) * 6000,
                     ("+-+..", "+" * 20000, "a a b")):
            self.raises(InvalidPart, arcs_told, FOLK, rows)
        self.assertLess(time.monotonic() - began, SECONDS)


class FactDTest(Asking):
    """Fact D."""

    def test_there_and_back(self):
        for land, plan in cases():
            self.same(arcs_told(land[0], arcs(land, plan)), (land, plan))

    def test_two_plans_have_one_square_exactly_if_they_are_one(self):
        for land in LANDS:
            plans = judge.plans(land)
            self.assertEqual(len({square(land, plan) for plan in plans}), len(plans))


if __name__ == "__main__":
    unittest.main()
