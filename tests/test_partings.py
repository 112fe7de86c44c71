"""Promise [8]: partings of a land by two heads; and of [1] what these modules tell of it."""

import unittest

from tests import judge, samples
from tests.asking import Asking
from wardsdrawn.errors import InvalidCount, InvalidPart, InvalidPlace
from wardsdrawn.lands import folk_of, hangs
from wardsdrawn.orders import (
    barred_sizes, by_order, fairest, is_order, is_shut, nth_order, order_count, ordered, two_wards, ward_counts,
)

SMALL = judge.lands((6, 2)) + judge.lands((5, 1, 3)) + judge.lands((0, 9, 4, 2))
FIVE = judge.lands((3, 3, 0, 8, 1))[::11]
LARGER = [samples.drawn_land(seed, 6 + seed % 3, 20 + 6 * (seed % 8)) for seed in range(16)]
# Here many partings are alike fair.
EVEN = [(tuple(k % 2 for k in range(len(folk))), borders) for folk, borders in LARGER]


class DocumentTest(Asking):
    """The examples of the document."""

    def test_examples(self):
        ring = ((3, 1, 2, 2), ((0, 1), (0, 3), (1, 2), (2, 3)))
        tail = ((1, 1, 1, 1), ((0, 1), (1, 2), (1, 3)))
        self.same(
            [two_wards(ring, 0, 2, 2), ward_counts(ring, 0, 2), fairest(ring, 0, 2),
             by_order(ring, 0, 2, (0, 3, 1, 2), 2)],
            [((0, 1), (2, 3)), (1, 2, 1), (0, (0, 1), (2, 3)), ((0, 3), (1, 2))],
        )
        self.same(
            [barred_sizes(tail, 0, 2), two_wards(tail, 0, 2, 2), two_wards(tail, 0, 2, 3), fairest(tail, 0, 2)],
            [(2,), None, ((0, 1, 3), (2,)), (2, (0,), (1, 2, 3))],
        )


class PartingsTest(Asking):

    def test_small_lands(self):
        for land in (*SMALL, *FIVE):
            for head, other_head in judge.heads_of(land):
                self.ask(land, head, other_head)

    def test_larger_lands(self):
        for land in (*LARGER, *EVEN):
            for head, other_head in judge.heads_of(land)[::7]:
                self.ask(land, head, other_head)

    def ask(self, land, head, other_head):
        found = judge.partings(land, head, other_head)
        counts = []
        for size in range(1, len(land[0])):
            of_size = [parting for parting in found if len(parting[0]) == size]
            counts.append(len(of_size))
            self.same(two_wards(land, head, other_head, size), min(of_size) if of_size else None)
        self.same(ward_counts(land, head, other_head), tuple(counts))
        barred = tuple(k + 1 for k, many in enumerate(counts) if many == 0)
        self.same(barred_sizes(land, head, other_head), barred)
        self.same(fairest(land, head, other_head), judge.fairest(land, head, other_head))

    def test_no_parting(self):
        for land, head, other_head in ((samples.empty((1,) * 3), 0, 1), (samples.empty((1,) * 12), 5, 7),
                                       (((1,) * 5, ((0, 1), (2, 3))), 0, 2)):
            many = len(land[0])
            self.same(fairest(land, head, other_head), None)
            self.same(ward_counts(land, head, other_head), (0,) * (many - 1))
            self.same(barred_sizes(land, head, other_head), tuple(range(1, many)))
            for size in range(1, many):
                self.same(two_wards(land, head, other_head, size), None)

    def test_two_pieces_with_a_head_each(self):
        land = ((4, 1, 9, 3, 2), ((0, 1), (2, 3), (3, 4)))
        self.same(ward_counts(land, 0, 3), (0, 1, 0, 0))
        self.same(two_wards(land, 0, 3, 2), ((0, 1), (2, 3, 4)))
        self.same(fairest(land, 3, 0), (9, (2, 3, 4), (0, 1)))

    def test_the_fairest_of_alike_gaps_has_the_least_ward(self):
        land = samples.full((1, 1, 1, 1))
        self.same(fairest(land, 0, 3), (0, (0, 1), (2, 3)))
        self.same(fairest(land, 3, 0), (0, (1, 3), (0, 2)))
        self.same(fairest(samples.full((0,) * 5), 0, 4), (0, (0,), (1, 2, 3, 4)))
        self.same(fairest(samples.full((0,) * 5), 4, 0), (0, (1, 2, 3, 4), (0,)))
        self.same(fairest(samples.path((1000000, 0, 0, 1000000)), 0, 3), (0, (0,), (1, 2, 3)))

    def test_twelve_places(self):
        self.same(ward_counts(samples.path((1,) * 12), 0, 11), (1,) * 11)
        self.same(ward_counts(samples.path((1,) * 12), 3, 5), (0, 0, 0, 1, 1, 0, 0, 0, 0, 0, 0))
        self.same(barred_sizes(samples.path((1,) * 12), 3, 5), (1, 2, 3, 6, 7, 8, 9, 10, 11))
        self.same(ward_counts(samples.ring_of((1,) * 12), 0, 6), (1, 2, 3, 4, 5, 6, 5, 4, 3, 2, 1))
        self.same(two_wards(samples.ring_of((1,) * 12), 0, 6, 6), ((0, 1, 2, 3, 4, 5), (6, 7, 8, 9, 10, 11)))
        self.same(fairest(samples.full((1000000,) * 12), 0, 11), (0, (0, 1, 2, 3, 4, 5), (6, 7, 8, 9, 10, 11)))
        self.same(fairest(samples.star((7,) * 12), 0, 4), (70, (0, 1, 2, 3, 5, 6, 7, 8, 9, 10, 11), (4,)))
        self.same(barred_sizes(samples.star((7,) * 12), 4, 0), tuple(range(2, 12)))

    def test_no_sizes(self):
        for size in samples.NO_SIZES:
            self.raises(InvalidCount, two_wards, samples.RING, 0, 2, size)
        self.raises(InvalidCount, two_wards, samples.empty((1, 1)), 0, 1, 2)
        self.raises(InvalidCount, two_wards, samples.full((1,) * 12), 0, 1, 12)

    def test_heads_that_are_none(self):
        for call, more in ((barred_sizes, ()), (ward_counts, ()), (fairest, ()), (two_wards, (1,)),
                           (by_order, ((), 1))):
            self.raises(InvalidPlace, call, samples.RING, 4, 0, *more)
            self.raises(InvalidPlace, call, samples.RING, 0, 4, *more)
            self.raises(InvalidPlace, call, samples.RING, 3, 3, *more)


class ByOrderTest(Asking):

    def test_all_orders_of_small_lands(self):
        for land in (*SMALL, *FIVE):
            for head, other_head in judge.heads_of(land):
                for order in judge.orders(land, head, other_head):
                    self.ask(land, order)

    def test_orders_of_larger_lands(self):
        for land in LARGER:
            for head, other_head in judge.heads_of(land)[::7]:
                for order in judge.orders(land, head, other_head)[::23]:
                    self.ask(land, order)

    def ask(self, land, order):
        for size in range(1, len(order)):
            wanted = (tuple(sorted(order[:size])), tuple(sorted(order[size:])))
            self.same(by_order(land, order[0], order[-1], order, size), wanted)

    def test_what_is_no_order(self):
        for order in samples.NO_ORDERS:
            self.raises(InvalidPart, by_order, samples.RING, 0, 2, order, 1)
        self.raises(InvalidPart, by_order, samples.RING, 2, 0, (0, 1, 3, 2), 1)
        self.raises(InvalidPart, by_order, samples.TAIL, 0, 2, (0, 1, 3, 2), 1)
        self.same(by_order(samples.RING, 2, 0, (2, 3, 1, 0), 1), ((2,), (0, 1, 3)))

    def test_no_sizes(self):
        for size in samples.NO_SIZES:
            self.raises(InvalidCount, by_order, samples.RING, 0, 2, (0, 3, 1, 2), size)

    def test_the_order_is_asked_ahead_of_the_size(self):
        for order in samples.NO_ORDERS:
            for size in samples.NO_SIZES:
                self.raises(InvalidPart, by_order, samples.RING, 0, 2, order, size)


class FactWTest(Asking):
    """Fact W."""

    def test_where_there_is_an_order_no_size_is_barred(self):
        for land in (*SMALL, *FIVE, *LARGER, *samples.TWELVES[::2]):
            for head, other_head in judge.heads_of(land)[::5]:
                if ordered(land, head, other_head)[0] == "yes":
                    self.same(barred_sizes(land, head, other_head), ())
                    self.assertLessEqual(fairest(land, head, other_head)[0], max(land[0]))

    def test_a_shut_lot_need_not_bar_a_size(self):
        land = ((1,) * 5, ((0, 1), (0, 2), (1, 3), (1, 4), (2, 4)))
        unbarred = [heads for heads in judge.heads_of(land)
                    if ordered(land, *heads)[0] == "no" and barred_sizes(land, *heads) == ()]
        self.assertIn((0, 4), unbarred)

    def test_a_fair_parting_needs_no_order(self):
        self.same(ordered(samples.TAIL, 0, 1), ("no", 1, (2,)))
        self.same(fairest(((3, 1, 1, 1), samples.TAIL[1]), 0, 1), (0, (0,), (1, 2, 3)))

    def test_each_parting_has_a_shut_lot_where_its_cut_is(self):
        for land in (*SMALL, *FIVE[::3]):
            every = judge.places_of(land)
            for head, other_head in judge.heads_of(land):
                found = judge.partings(land, head, other_head)
                for lot in judge.lots_within(every):
                    for cut in (None, *every):
                        if is_shut(land, head, other_head, cut, lot):
                            self.stands_with_cut(land, head, other_head, cut, lot, found)

    def stands_with_cut(self, land, head, other_head, cut, lot, found):
        if cut is None:
            self.assertEqual(found, [])
            self.same(fairest(land, head, other_head), None)
        for ward, other in found:
            home = ward if cut in ward else other
            self.assertLessEqual(set(lot), set(home))


class OverviewTest(Asking):
    """Promise [1], as far as lands, orders and partings go."""

    def test_every_size_by_a_walk_along_an_order_or_a_shut_lot_and_the_barred_sizes(self):
        for land in (*SMALL, *FIVE, *LARGER, *samples.TWELVES[::2]):
            for head, other_head in judge.heads_of(land)[::5]:
                answer = ordered(land, head, other_head)
                if answer[0] == "yes":
                    self.served(land, head, other_head, answer[1])
                else:
                    self.assertEqual(answer[0], "no")
                    self.same(is_shut(land, head, other_head, *answer[1:]), True)
                    self.barred(land, head, other_head)

    def served(self, land, head, other_head, order):
        """Every size is served along the order, each place stepping over to the other ward in its turn."""
        self.same(is_order(land, head, other_head, order), True)
        gaps = []
        for size in range(1, len(order)):
            ward, other = by_order(land, head, other_head, order, size)
            self.assertEqual((len(ward), sorted(ward + other)), (size, sorted(order)))
            self.assertTrue(head in ward and other_head in other)
            self.same([hangs(land, ward), hangs(land, other)], [True, True])
            gaps.append(abs(folk_of(land, ward) - folk_of(land, other)))
        self.assertLessEqual(fairest(land, head, other_head)[0], min(gaps))
        self.assertLessEqual(min(gaps), max(land[0]))

    def barred(self, land, head, other_head):
        """Without an order the barred sizes are just those of which no parting is told."""
        self.same(order_count(land, head, other_head), 0)
        self.raises(InvalidCount, nth_order, land, head, other_head, 0)
        sizes = range(1, len(land[0]))
        none = tuple(size for size in sizes if two_wards(land, head, other_head, size) is None)
        self.same(barred_sizes(land, head, other_head), none)
        counts = ward_counts(land, head, other_head)
        self.same(tuple(size for size in sizes if counts[size - 1] == 0), none)


if __name__ == "__main__":
    unittest.main()
