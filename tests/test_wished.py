"""Promise [9]: wished plans, and the cases that bar them."""

import random
import time
import unittest
from itertools import combinations

from tests import judge, judge_wishes, samples
from tests.asking import Asking
from wardsdrawn.errors import InvalidLand, InvalidPart
from wardsdrawn.lands import hangs
from wardsdrawn.wished import are_cases, is_serving, wished

SMALL = judge.lands((1, 2)) + judge.lands((1, 2, 3)) + judge.lands((1, 2, 3, 4))
FIVE = judge.lands((0, 5, 1, 4, 2))[::13]
LARGER = [samples.drawn_land(seed, 6 + seed % 2, 15 + 5 * (seed % 11)) for seed in range(22)]
GRID = ((1,) * 12, tuple(sorted([(k, k + 1) for k in range(12) if k % 4 < 3] + [(k, k + 4) for k in range(8)])))
THIN = [samples.drawn_land(seed, 12, 10 + 3 * seed) for seed in range(6)]
THICK = [samples.drawn_land(seed, 12, 40 + 10 * seed) for seed in range(6)]
# Three places, or four, and eight that border all of these and nothing else.
BUNDLES = [((1,) * 12, tuple((low, high) for low in range(many) for high in range(many, 12))) for many in (2, 3, 4, 6)]
SECONDS = 10


def wishes_of(land):
    """All pairs of heads, two to four, and sizes."""
    many = len(land[0])
    return [(heads, sizes) for number in range(2, min(4, many) + 1) for heads in judge_wishes.heads_of(land, number)
            for sizes in judge_wishes.sizes_for(many, number)]


def drawn_wishes(land, seed, number):
    """So many drawn pairs of heads and sizes, as many of two heads as of three and of four."""
    draw = random.Random(seed)
    many = len(land[0])
    found = []
    for k in range(number):
        heads = tuple(draw.sample(range(many), 2 + k % 3))
        found.append((heads, draw.choice(judge_wishes.sizes_for(many, len(heads)))))
    return found


def is_right(land, heads, sizes, value):
    """What the plain judge says of cases of the first state."""
    return judge_wishes.are_cases(land, heads, sizes, judge_wishes.first_state(heads), value)


class DocumentTest(Asking):
    """The examples of the document."""

    def test_examples(self):
        path = ((1, 2, 3, 4), ((0, 1), (1, 2), (2, 3)))
        self.same(
            [wished(path, (1, 2), (2, 2)), are_cases(path, (1, 2), (1, 3), ("split", 0, (("over", 0), ("shut", 1)))),
             are_cases(path, (1, 2), (1, 3), ("shut", 0))],
            [("yes", ((0, 1), (2, 3))), True, False],
        )


class WishedTest(Asking):

    def ask(self, land, heads, sizes):
        found = judge_wishes.servings(land, heads, sizes)
        answer = wished(land, heads, sizes)
        self.assertIs(type(answer), tuple)
        self.assertEqual(len(answer), 2)
        if found:
            self.assertEqual(answer[0], "yes")
            self.assertIn(repr(answer[1]), [repr(serving) for serving in found])
            self.same(is_serving(land, heads, sizes, answer[1]), True)
        else:
            self.assertEqual(answer[0], "no")
            self.assertTrue(is_right(land, heads, sizes, answer[1]), answer)
            self.same(are_cases(land, heads, sizes, answer[1]), True)
        return answer[0]

    def test_small_lands(self):
        for land in SMALL:
            for heads, sizes in wishes_of(land):
                self.ask(land, heads, sizes)

    def test_lands_of_five_places(self):
        for land in FIVE:
            for heads, sizes in wishes_of(land)[::3]:
                self.ask(land, heads, sizes)

    def test_larger_lands(self):
        words = [self.ask(land, heads, sizes) for k, land in enumerate(LARGER)
                 for heads, sizes in drawn_wishes(land, k, 60)]
        self.assertGreater(words.count("yes"), 200)
        self.assertGreater(words.count("no"), 200)

    def test_lands_that_do_not_hang_together(self):
        apart = ((1,) * 6, ((0, 1), (1, 2), (3, 4), (4, 5)))
        for heads, sizes in wishes_of(apart)[::2]:
            self.ask(apart, heads, sizes)
        self.same(wished(apart, (0, 4), (3, 3)), ("yes", ((0, 1, 2), (3, 4, 5))))
        self.same(wished(apart, (4, 0), (3, 3)), ("yes", ((3, 4, 5), (0, 1, 2))))
        self.assertEqual(wished(apart, (0, 4), (2, 4))[0], "no")
        self.assertEqual(wished(apart, (0, 1), (3, 3))[0], "no")

    def test_each_place_a_head(self):
        for land in SMALL:
            many = len(land[0])
            if many > 1:
                for heads in judge_wishes.heads_of(land, many):
                    lots = tuple((head,) for head in heads)
                    self.same(wished(land, heads, (1,) * many), ("yes", lots))

    def test_the_sequence_of_the_heads(self):
        land = samples.path((1,) * 6)
        for heads, sizes, serving in (
                ((0, 3, 5), (2, 3, 1), ((0, 1), (2, 3, 4), (5,))), ((5, 0, 3), (1, 2, 3), ((5,), (0, 1), (2, 3, 4))),
                ((3, 5, 0), (3, 1, 2), ((2, 3, 4), (5,), (0, 1))), ((4, 1), (5, 1), None), ((4, 0), (5, 1), None)):
            answer = wished(land, heads, sizes)
            if serving is None:
                serving = ((1, 2, 3, 4, 5), (0,)) if heads == (4, 0) else None
            self.assertEqual(answer[0], "no" if serving is None else "yes")
            if serving is not None:
                self.same(answer[1], serving)

    def test_twelve_places_end_soon(self):
        served = barred = 0
        for k, land in enumerate((GRID, *THIN, *THICK, *BUNDLES, *samples.TWELVES)):
            for heads, sizes in drawn_wishes(land, k, 36) + [((3, 0, 11, 7), (3, 3, 3, 3)), ((11, 0), (6, 6))]:
                began = time.monotonic()
                word, found = wished(land, heads, sizes)
                judged = is_serving if word == "yes" else are_cases
                self.same(judged(land, heads, sizes, found), True)
                self.assertLess(time.monotonic() - began, SECONDS)
                served += word == "yes"
                barred += word == "no"
        self.assertGreater(served, 300)
        self.assertGreater(barred, 200)

    def test_cases_of_twelve_places_against_the_plain_judge(self):
        for land, heads, sizes in ((GRID, (7, 2, 9, 11), (3, 3, 3, 3)), (samples.star((1,) * 12), (3, 0), (2, 10)),
                                   (samples.ring_of((1,) * 12), (0, 2, 1), (4, 4, 4)),
                                   (samples.empty((1,) * 12), (5, 6), (6, 6))):
            word, cases = wished(land, heads, sizes)
            self.assertEqual(word, "no")
            self.assertTrue(is_right(land, heads, sizes, cases))


class IsServingTest(Asking):

    def ask(self, land, heads, sizes, values, right):
        for value in values:
            self.same(is_serving(land, heads, sizes, value), repr(value) in right)

    def test_changed_servings(self):
        for k, land in enumerate((*SMALL[::3], *FIVE[::5], *LARGER)):
            for heads, sizes in drawn_wishes(land, k, 6) if len(land[0]) > 3 else wishes_of(land):
                found = judge_wishes.servings(land, heads, sizes)
                right = {repr(serving) for serving in found}
                for serving in found[:3]:
                    self.same(is_serving(land, heads, sizes, serving), True)
                    self.ask(land, heads, sizes, judge_wishes.changed_servings(serving), right)

    def test_servings_of_other_wishes(self):
        for land in SMALL[::7]:
            wishes = wishes_of(land)
            every = [serving for heads, sizes in wishes for serving in judge_wishes.servings(land, heads, sizes)]
            for heads, sizes in wishes:
                right = {repr(serving) for serving in judge_wishes.servings(land, heads, sizes)}
                self.ask(land, heads, sizes, every[::3], right)

    def test_by_hand(self):
        land = samples.path((1,) * 4)
        self.same(is_serving(land, (1, 2), (2, 2), ((0, 1), (2, 3))), True)
        self.same(is_serving(land, (2, 1), (2, 2), ((2, 3), (0, 1))), True)
        for wrong in (((2, 3), (0, 1)), ((0, 1, 2), (3,)), ((0, 1), (3, 2)), ((1, 0), (2, 3)), ((0, 1), (2,)),
                      ((0, 1), (1, 2)), ((0, 1), (2, 2)), ((0, 1), (2, 4)), ((0, 1), (2, 3), ()), ((0, 1),),
                      [(0, 1), (2, 3)], ((0, 1), [2, 3]), ((False, 1), (2, 3)), ((0, True), (2, 3)), ((0, 3), (1, 2)),
                      ((1, 3), (0, 2)), ((1, 3), (2, 0)), "0123", ((0, 1), (2, "3")), (None, None)):
            with self.subTest(repr(wrong)):
                self.same(is_serving(land, (1, 2), (2, 2), wrong), False)


class AreCasesTest(Asking):

    def ask(self, land, heads, sizes, value):
        """The value, and all that comes from it by one change, are judged as the plain judge does."""
        self.same(are_cases(land, heads, sizes, value), is_right(land, heads, sizes, value))
        for other in judge_wishes.changed_cases(value, len(land[0]), len(heads)):
            self.same(are_cases(land, heads, sizes, other), is_right(land, heads, sizes, other))

    def test_short_cases_of_the_first_state(self):
        for land in (*SMALL, *FIVE[::3]):
            told = [("lost", place) for place in judge.places_of(land)]
            told += [(word, k) for word in ("over", "shut") for k in range(5)]
            for heads, sizes in wishes_of(land)[::2]:
                for value in told:
                    self.same(are_cases(land, heads, sizes, value), is_right(land, heads, sizes, value))

    def test_told_cases_and_their_changes(self):
        asked = 0
        for k, land in enumerate((*SMALL[::5], *FIVE[::4], *LARGER)):
            for heads, sizes in drawn_wishes(land, k, 12) if len(land[0]) > 3 else wishes_of(land):
                word, cases = wished(land, heads, sizes)
                if word == "no" and asked % 3 < 2:
                    self.ask(land, heads, sizes, cases)
                asked += word == "no"
        self.assertGreater(asked, 100)

    def test_drawn_cases_and_their_changes(self):
        draw = random.Random(9)
        words = set()
        for k, land in enumerate((*SMALL[::4], *FIVE[::3], *LARGER[::3])):
            for heads, sizes in drawn_wishes(land, 50 + k, 5) if len(land[0]) > 3 else wishes_of(land):
                cases = judge_wishes.drawn_cases(land, heads, sizes, draw)
                self.assertEqual(cases is None, judge_wishes.servings(land, heads, sizes) != [])
                if cases is not None:
                    self.same(are_cases(land, heads, sizes, cases), True)
                    words |= {word for word in ("over", "shut", "lost", "split") if word in repr(cases)}
                    if len(repr(cases)) < 300:
                        self.ask(land, heads, sizes, cases)
        self.assertEqual(words, {"over", "shut", "lost", "split"})

    def test_splits_down_to_the_last_place(self):
        for k, land in enumerate((*SMALL, *FIVE[::2], *LARGER[::4])):
            for heads, sizes in drawn_wishes(land, k, 6) if len(land[0]) > 3 else wishes_of(land):
                cases = judge_wishes.long_cases(land, heads, sizes)
                barred = not judge_wishes.servings(land, heads, sizes)
                self.same(are_cases(land, heads, sizes, cases), barred)

    def test_right_cases_however_large(self):
        for land, heads, sizes in ((samples.star((1,) * 12), (4, 1, 2, 3), (3, 3, 3, 3)),
                                   (samples.path((1,) * 12), (1, 0, 5), (2, 4, 6)),
                                   (samples.star((1,) * 12), (3, 9), (6, 6))):
            cases = self.split_all(land, heads, sizes, judge_wishes.first_state(heads))
            began = time.monotonic()
            self.same(are_cases(land, heads, sizes, cases), True)
            self.assertLess(time.monotonic() - began, SECONDS)

    def split_all(self, land, heads, sizes, state):
        """Cases that split every place: at the ends a head has too many places, or is shut off from one of its own."""
        free = judge_wishes.free_places(land, state)
        if free:
            rows = [self.split_all(land, heads, sizes, {**state, free[0]: k}) for k in range(len(heads))]
            return ("split", free[0], tuple(rows))
        for k, size in enumerate(sizes):
            own = [place for place in state if state[place] == k]
            if len(own) > size:
                return ("over", k)
            if not judge.joined(land, own):
                return ("shut", k)
        return None

    def test_over(self):
        land = samples.full((1,) * 4)
        self.same(are_cases(land, (0, 1), (1, 3), ("over", 0)), False)
        self.same(are_cases(land, (0, 1), (1, 3), ("split", 2, (("over", 0), ("over", 1)))), False)
        self.same(are_cases(land, (0, 1), (1, 3), ("split", 2, (("over", 0), ("over", 0)))), False)
        self.same(are_cases(samples.empty((1,) * 3), (0, 1), (1, 2), ("split", 2, (("over", 0), ("shut", 1)))), True)
        self.same(are_cases(samples.empty((1,) * 3), (0, 1), (1, 2), ("split", 2, (("over", 0), ("over", 1)))), False)

    def test_shut(self):
        land = samples.path((1,) * 5)
        self.same(are_cases(land, (1, 2), (3, 2), ("shut", 0)), True)
        self.same(are_cases(land, (1, 2), (3, 2), ("shut", 1)), False)
        self.same(are_cases(land, (2, 1), (2, 3), ("shut", 1)), True)
        # Of its own places it can not come to all of them: place 4 lies behind the other head.
        split = ("split", 4, (("shut", 0), ("over", 1)))
        self.same(are_cases(land, (0, 3), (4, 1), split), True)
        self.same(are_cases(land, (0, 3), (3, 2), split), False)

    def test_own_places_count_among_those_it_can_come_to(self):
        land = ((1,) * 4, ((0, 1), (2, 3)))
        self.same(are_cases(land, (0, 2), (3, 1), ("shut", 0)), True)
        self.same(are_cases(land, (0, 2), (2, 2), ("shut", 0)), False)
        self.same(are_cases(land, (0, 2), (2, 2), ("split", 1, (("shut", 0), ("shut", 1)))), False)

    def test_lost(self):
        land = ((1,) * 5, ((0, 1), (2, 3)))
        self.same(are_cases(land, (0, 1), (2, 3), ("lost", 4)), True)
        self.same(are_cases(land, (0, 1), (2, 3), ("lost", 3)), True)
        self.same(are_cases(land, (0, 2), (2, 3), ("lost", 3)), False)
        self.same(are_cases(land, (0, 2), (2, 3), ("lost", 0)), False)
        self.same(are_cases(land, (0, 4), (2, 3), ("lost", 4)), False)
        # Given to a head it is nobody's no more.
        self.same(are_cases(land, (0, 1), (2, 3), ("split", 4, (("lost", 4), ("lost", 3)))), False)
        self.same(are_cases(land, (0, 1), (2, 3), ("split", 4, (("lost", 3), ("lost", 3)))), True)

    def test_split(self):
        land = samples.empty((1,) * 4)
        right = ("split", 2, (("lost", 3), ("shut", 1)))
        self.same(are_cases(land, (0, 1), (1, 3), right), True)
        # A place is split once, and only one that is nobody's.
        self.same(are_cases(land, (0, 1), (1, 3), ("split", 0, (("lost", 3), ("lost", 3)))), False)
        self.same(are_cases(land, (0, 1), (1, 3), ("split", 3, (right, right))), False)
        again = ("split", 3, (("shut", 0), ("shut", 1)))
        self.same(are_cases(land, (0, 1), (1, 3), ("split", 2, (again, again))), True)
        self.same(are_cases(land, (0, 1), (1, 3), ("split", 3, (again, again))), False)
        for wrong in (("split", 2), ("split", 2, ()), ("split", 2, (("lost", 3),)), ("split", 2, [("lost", 3)] * 2),
                      ("split", 2, (("lost", 3),) * 3), ("split", 2, (("lost", 3),) * 2, ()), ("split", 2, None),
                      ("split", True, (("lost", 3),) * 2), ("split", -1, (("lost", 3),) * 2),
                      ("split", 4, (("lost", 3),) * 2), ["split", 2, (("lost", 3),) * 2], ("lost", 3, ()),
                      ("lost", "3"), ("lost", [3]), ("lost",), ("lost", -1), ("shut", -1), ("over", 2), ("shut", 2)):
            with self.subTest(repr(wrong)):
                self.same(are_cases(land, (0, 1), (1, 3), wrong), False)
        self.same(are_cases(land, (0, 1), (1, 3), ("split", 2, (("lost", 3),) * 2)), True)

    def test_cases_in_each_others_place(self):
        land = samples.path((1, 2, 3, 4))
        self.same(are_cases(land, (1, 2), (1, 3), ("split", 0, (("shut", 1), ("over", 0)))), False)
        self.same(are_cases(land, (2, 1), (3, 1), ("split", 0, (("shut", 0), ("over", 1)))), True)
        self.same(are_cases(land, (2, 1), (3, 1), ("split", 0, (("over", 0), ("shut", 1)))), False)


class WrongWishesTest(Asking):

    def test_heads_that_are_none(self):
        for call, more in ((wished, ()), (is_serving, (None,)), (are_cases, (None,))):
            for heads in samples.NO_WISHED_HEADS:
                self.raises(InvalidPart, call, samples.WISHED, heads, (2, 2), *more)
                self.raises(InvalidPart, call, samples.WISHED, heads, None, *more)
                self.raises(InvalidLand, call, (), heads, (2, 2), *more, field="place", worth=())

    def test_sizes_that_are_none(self):
        for call, more in ((wished, ()), (is_serving, (None,)), (are_cases, (None,))):
            for sizes in samples.NO_WISHED_SIZES:
                self.raises(InvalidPart, call, samples.WISHED, (1, 2), sizes, *more)

    def test_as_many_sizes_as_heads(self):
        for heads, sizes in (((0, 1), (1, 1, 2)), ((0, 1, 2), (2, 2)), ((0, 1, 2, 3), (1, 1, 2)), ((3, 2, 1), (4,))):
            self.raises(InvalidPart, wished, samples.WISHED, heads, sizes)
        self.same(wished(samples.WISHED, (0, 1, 2, 3), (1, 1, 1, 1)), ("yes", ((0,), (1,), (2,), (3,))))

    def test_two_to_four_heads(self):
        land = samples.full((1,) * 6)
        self.raises(InvalidPart, wished, land, (0,), (6,))
        self.raises(InvalidPart, wished, land, (0, 1, 2, 3, 4), (1, 1, 1, 1, 2))
        self.raises(InvalidPart, wished, land, (), ())
        for many in (2, 3, 4):
            self.assertEqual(wished(land, tuple(range(many)), (7 - many, *(1,) * (many - 1)))[0], "yes")


class FactVTest(Asking):
    """Fact V, and of [1] what these calls tell of the main fact."""

    def test_exactly_one_of_a_serving_and_cases(self):
        draw = random.Random(1)
        for land in (*SMALL[::3], *FIVE[::5]):
            every = judge.places_of(land)
            for heads, sizes in wishes_of(land)[::5]:
                served = any(is_serving(land, heads, sizes, value) for value in self.all_lots(every, heads, sizes))
                told = [judge_wishes.long_cases(land, heads, sizes),
                        judge_wishes.drawn_cases(land, heads, sizes, draw), wished(land, heads, sizes)[1]]
                self.same(any(are_cases(land, heads, sizes, value) for value in told), not served)

    def all_lots(self, every, heads, sizes):
        """All ways to give each place to a head, with these sizes, whether they hang together or not."""
        if not sizes:
            return [()]
        found = []
        for lot in combinations(every, sizes[0]):
            left = tuple(place for place in every if place not in lot)
            found += [(lot, *rest) for rest in self.all_lots(left, heads[1:], sizes[1:])]
        return found

    def test_lands_that_still_hang_together_without_fewer_than_h_places(self):
        tried = {2: 0, 3: 0, 4: 0}
        whole = [samples.full((1,) * many) for many in (5, 6, 7, 12)]
        for k, land in enumerate((*SMALL, *FIVE, *LARGER, *THICK, *BUNDLES, *whole)):
            every = judge.places_of(land)
            for many in (2, 3, 4):
                if len(every) > many and self.is_fast(land, every, many):
                    tried[many] += 1
                    wishes = wishes_of(land) if len(every) < 6 else drawn_wishes(land, k, 30)
                    for heads, sizes in wishes:
                        if len(heads) == many:
                            self.assertEqual(wished(land, heads, sizes)[0], "yes")
        self.assertGreater(min(tried.values()), 5)

    def is_fast(self, land, every, many):
        """Whether the land hangs together, whichever places, fewer than many, are taken out."""
        return all(hangs(land, tuple(place for place in every if place not in out))
                   for number in range(many) for out in combinations(every, number))


if __name__ == "__main__":
    unittest.main()
