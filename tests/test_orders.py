"""Promise [7]: orders with two ends, and the shut lots that bar them."""

import unittest
from itertools import permutations

from tests import judge, samples
from tests.asking import Asking
from wardsdrawn.errors import InvalidCount, InvalidLot, InvalidPart, InvalidPlace
from wardsdrawn.lands import cut_places, hangs, turned
from wardsdrawn.orders import is_order, is_shut, nth_order, order_count, ordered

FOUR = judge.lands((1, 2, 3, 4))
SMALL = judge.lands((1, 2)) + judge.lands((1, 2, 3)) + FOUR
FIVE = judge.lands((0, 5, 1, 4, 2))[::3]
LARGER = [samples.drawn_land(seed, 6 + seed % 3, 25 + 5 * (seed % 9)) for seed in range(18)]


class DocumentTest(Asking):
    """The examples of the document."""

    def test_examples(self):
        ring = ((3, 1, 2, 2), ((0, 1), (0, 3), (1, 2), (2, 3)))
        tail = ((1, 1, 1, 1), ((0, 1), (1, 2), (1, 3)))
        self.same(
            [ordered(ring, 0, 2), order_count(ring, 0, 2), nth_order(ring, 0, 2, 1), ordered(tail, 0, 2),
             order_count(tail, 0, 2)],
            [("yes", (0, 1, 3, 2)), 2, (0, 3, 1, 2), ("no", 1, (3,)), 0],
        )
        self.same(
            [is_order(ring, 0, 2, (0, 3, 1, 2)), is_order(ring, 0, 1, (0, 2, 3, 1)), is_shut(tail, 0, 2, 1, (3,)),
             is_shut(tail, 0, 2, None, (3,))],
            [True, False, True, False],
        )


class IsOrderTest(Asking):

    def test_all_rows_of_small_lands(self):
        for land in SMALL:
            rows = list(permutations(judge.places_of(land)))
            for head, other_head in judge.heads_of(land):
                for row in rows:
                    self.same(is_order(land, head, other_head, row), judge.is_order(land, head, other_head, row))

    def test_rows_of_larger_lands(self):
        for land in (*FIVE[::7], *LARGER):
            rows = list(permutations(judge.places_of(land)))
            for row in rows[::len(rows) // 100]:
                wanted = judge.is_order(land, row[0], row[-1], row)
                self.same(is_order(land, row[0], row[-1], row), wanted)
                self.same(is_order(land, row[-1], row[0], row), False)
                self.same(is_order(land, row[0], row[1], row), False)

    def test_heads_need_no_neighbours(self):
        self.same(is_order(samples.empty((1, 1)), 1, 0, (1, 0)), True)
        self.same(is_order(((1,) * 4, ((0, 1), (0, 2), (1, 2), (2, 3))), 0, 3, (0, 1, 2, 3)), True)
        self.same(is_order(((1,) * 4, ((0, 1), (0, 2), (1, 2), (2, 3))), 0, 3, (0, 2, 1, 3)), False)

    def test_neighbours_may_stand_anywhere_ahead_and_behind(self):
        land = ((1,) * 5, ((0, 1), (0, 2), (0, 3), (1, 4), (2, 4), (3, 4)))
        self.same(is_order(land, 0, 4, (0, 3, 1, 2, 4)), True)
        self.same(is_order(land, 0, 4, (0, 1, 2, 3, 4)), True)

    def test_no_orders(self):
        for value in samples.NO_ORDERS:
            with self.subTest(repr(value)):
                self.same(is_order(samples.RING, 0, 2, value), False)
        self.same(is_order(samples.full((1,) * 12), 0, 11, tuple(range(12))), True)
        self.same(is_order(samples.full((1,) * 12), 0, 11, tuple(range(11)) + (10,)), False)
        self.same(is_order(samples.full((1,) * 12), 0, 11, (*range(6), *range(5), 11)), False)


class IsShutTest(Asking):

    def test_all_cuts_and_lots_of_small_lands(self):
        for land in SMALL:
            every = judge.places_of(land)
            for head, other_head in judge.heads_of(land):
                for lot in judge.lots_within(every):
                    for cut in (None, *every):
                        wanted = judge.is_shut(land, head, other_head, cut, lot)
                        self.same(is_shut(land, head, other_head, cut, lot), wanted)

    def test_larger_lands(self):
        for land in LARGER:
            every = judge.places_of(land)
            for lot in judge.lots_within(every)[::3]:
                for head, other_head in judge.heads_of(land)[::9]:
                    for cut in (None, *every):
                        wanted = judge.is_shut(land, head, other_head, cut, lot)
                        self.same(is_shut(land, head, other_head, cut, lot), wanted)

    def test_the_cut_may_be_no_neighbour_or_a_head(self):
        land = ((1,) * 5, ((0, 1), (2, 3)))
        self.same(is_shut(land, 0, 1, None, (2, 3)), True)
        self.same(is_shut(land, 0, 1, 4, (2, 3)), True)
        self.same(is_shut(land, 0, 1, 0, (2, 3)), True)
        self.same(is_shut(land, 0, 1, 3, (2,)), True)
        self.same(is_shut(land, 0, 1, 4, (2,)), False)
        self.same(is_shut(land, 0, 4, 0, (1,)), True)
        self.same(is_shut(land, 0, 4, 4, (1,)), False)

    def test_a_lot_need_not_hang_together(self):
        self.same(is_shut(samples.empty((1,) * 5), 0, 1, None, (2, 4)), True)
        self.same(is_shut(samples.star((1,) * 5), 1, 2, 0, (3, 4)), True)
        self.same(is_shut(samples.star((1,) * 5), 1, 2, None, (3, 4)), False)

    def test_a_lot_with_a_head_or_the_cut_is_not_shut(self):
        land = samples.empty((1,) * 4)
        self.same(is_shut(land, 0, 1, None, (0,)), False)
        self.same(is_shut(land, 0, 1, None, (1, 2)), False)
        self.same(is_shut(land, 0, 1, 2, (2,)), False)
        self.same(is_shut(land, 0, 1, 2, (2, 3)), False)
        self.same(is_shut(land, 0, 1, 0, (0, 2)), False)
        self.same(is_shut(land, 0, 1, 2, (3,)), True)

    def test_wrong_cuts_and_lots(self):
        for cut in samples.NO_CUTS:
            self.raises(InvalidPart, is_shut, samples.RING, 0, 2, cut, (1,))
            self.raises(InvalidPart, is_shut, samples.RING, 0, 2, cut, (0,))
            self.raises(InvalidPart, is_shut, samples.RING, 0, 2, cut, None)
        for lot in samples.NO_LOTS:
            self.raises(InvalidLot, is_shut, samples.RING, 0, 2, 1, lot)
            self.raises(InvalidLot, is_shut, samples.RING, 0, 2, None, lot)


class OrderedTest(Asking):

    def test_small_lands(self):
        for land in (*SMALL, *FIVE):
            for head, other_head in judge.heads_of(land):
                self.same(ordered(land, head, other_head), judge.ordered(land, head, other_head))

    def test_larger_lands(self):
        for land in LARGER:
            for head, other_head in judge.heads_of(land)[::5]:
                self.same(ordered(land, head, other_head), judge.ordered(land, head, other_head))

    def test_two_places_alone(self):
        for land in judge.lands((0, 7)):
            self.same(ordered(land, 0, 1), ("yes", (0, 1)))
            self.same(ordered(land, 1, 0), ("yes", (1, 0)))

    def test_the_border_of_both_heads_is_put_in(self):
        self.same(ordered(samples.path((1,) * 5), 0, 4), ("yes", (0, 1, 2, 3, 4)))
        self.same(ordered(samples.path((1,) * 5), 4, 0), ("yes", (4, 3, 2, 1, 0)))
        self.same(ordered(((1,) * 4, ((0, 2), (1, 3))), 0, 1), ("no", 0, (2,)))

    def test_a_land_that_does_not_hang_together(self):
        self.same(ordered(samples.empty((1,) * 4), 1, 3), ("no", None, (0,)))
        self.same(ordered(samples.empty((1,) * 4), 0, 1), ("no", None, (2,)))
        self.same(ordered(((1,) * 6, ((0, 1), (1, 2), (3, 5))), 0, 2), ("no", None, (3, 5)))
        self.same(ordered(((1,) * 6, ((0, 1), (0, 2), (3, 5))), 3, 5), ("no", None, (0, 1, 2)))

    def test_the_least_cut_and_the_lot_with_the_least_place(self):
        land = ((1,) * 8, ((0, 1), (1, 2), (1, 6), (1, 7), (2, 3), (2, 4), (2, 5)))
        self.same(ordered(land, 0, 2), ("no", 1, (6,)))
        self.same(ordered(land, 3, 4), ("no", 1, (0,)))
        self.same(ordered(land, 5, 6), ("no", 1, (0,)))
        self.same(ordered(samples.star((1,) * 6), 1, 4), ("no", 0, (2,)))
        self.same(ordered(samples.path((1,) * 6), 2, 4), ("no", 1, (0,)))
        self.same(ordered(samples.path((1,) * 6), 0, 3), ("no", 3, (4, 5)))

    def test_a_head_that_is_the_cut(self):
        self.same(ordered(samples.path((1,) * 4), 0, 2), ("no", 2, (3,)))
        self.same(ordered(samples.path((1,) * 4), 2, 0), ("no", 2, (3,)))
        self.same(ordered(samples.star((1,) * 4), 0, 1), ("no", 0, (2,)))

    def test_what_is_told_is_right(self):
        for land in (*LARGER, *samples.TWELVES):
            for head, other_head in judge.heads_of(land)[::7]:
                answer = ordered(land, head, other_head)
                if answer[0] == "yes":
                    self.same(is_order(land, head, other_head, answer[1]), True)
                else:
                    self.same(is_shut(land, head, other_head, *answer[1:]), True)


class CountedTest(Asking):

    def test_small_lands(self):
        for land in (*SMALL, *FIVE[::3]):
            for head, other_head in judge.heads_of(land):
                self.ask(land, head, other_head, 1)

    def test_larger_lands(self):
        for land in LARGER:
            for head, other_head in judge.heads_of(land)[::11]:
                self.ask(land, head, other_head, 37)

    def ask(self, land, head, other_head, step):
        found = judge.orders(land, head, other_head)
        self.same(order_count(land, head, other_head), len(found))
        for number in range(0, len(found), step):
            self.same(nth_order(land, head, other_head, number), found[number])
        if found:
            self.same(nth_order(land, head, other_head, len(found) - 1), found[-1])
        for number in (-1, len(found), len(found) + 1, 10 ** 89, True, None, "0"):
            self.raises(InvalidCount, nth_order, land, head, other_head, number)

    def test_a_land_without_an_order_has_no_number_of_one(self):
        self.same(order_count(samples.TAIL, 0, 2), 0)
        for number in (-1, 0, 1, 2, None, "", (0,), False):
            self.raises(InvalidCount, nth_order, samples.TAIL, 0, 2, number)

    def test_the_least_is_the_first(self):
        for land in (*LARGER, *samples.TWELVES):
            for head, other_head in judge.heads_of(land)[::13]:
                answer = ordered(land, head, other_head)
                many = order_count(land, head, other_head)
                self.same(answer[0], "yes" if many else "no")
                if many:
                    self.same(nth_order(land, head, other_head, 0), answer[1])
                    last = nth_order(land, head, other_head, many - 1)
                    self.same(is_order(land, head, other_head, last), True)

    def test_as_many_the_other_way(self):
        for land in (*LARGER, *samples.TWELVES):
            for head, other_head in judge.heads_of(land)[::13]:
                self.same(order_count(land, head, other_head), order_count(land, other_head, head))

    def test_heads_that_are_none(self):
        for call, more in ((ordered, ()), (order_count, ()), (nth_order, (0,)), (is_order, ((),))):
            self.raises(InvalidPlace, call, samples.RING, 4, 0, *more)
            self.raises(InvalidPlace, call, samples.RING, 0, 4, *more)
            self.raises(InvalidPlace, call, samples.RING, 3, 3, *more)


class FactOTest(Asking):
    """Fact O."""

    def test_an_order_or_a_shut_lot(self):
        for land in (*SMALL, *FIVE[::9]):
            every = judge.places_of(land)
            for head, other_head in judge.heads_of(land):
                shut = any(is_shut(land, head, other_head, cut, lot)
                           for lot in judge.lots_within(every) for cut in (None, *every))
                self.same(order_count(land, head, other_head) > 0, not shut)

    def test_an_order_exactly_if_no_place_cuts(self):
        for land in (*SMALL, *FIVE, *LARGER, *samples.TWELVES):
            every = judge.places_of(land)
            for head, other_head in judge.heads_of(land)[::3]:
                put_in = judge.with_border(land, head, other_head)
                whole = hangs(put_in, every) and cut_places(put_in, every) == ()
                self.same(ordered(land, head, other_head)[0], "yes" if whole else "no")

    def test_beginnings_and_ends_hang_together(self):
        for land in (*SMALL, *FIVE[::29]):
            for row in permutations(judge.places_of(land)):
                joined = all(hangs(land, tuple(sorted(row[:k]))) and hangs(land, tuple(sorted(row[k:])))
                             for k in range(1, len(row)))
                self.same(is_order(land, row[0], row[-1], row), joined)

    def test_orders_of_a_turned_land(self):
        for land in LARGER:
            order = judge.places_of(land)[1:] + (0,)
            there = turned(land, order)
            for head, other_head in judge.heads_of(land)[::9]:
                led = order.index(head), order.index(other_head)
                self.same(order_count(there, *led), order_count(land, head, other_head))


if __name__ == "__main__":
    unittest.main()
