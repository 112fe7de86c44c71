"""Promises [2], [3] and [4]: the rules that hold for every call."""

import copy
import inspect
import os
import subprocess
import sys
import time
import unittest
from itertools import combinations
from math import gcd

from tests import samples
from tests.asking import Asking
from tests.calls import ANSWERS, CALLS, FITTED, LED, MODULES, WEIGHED, any_wrong_for, worth_of, wrong_for
from wardsdrawn import drawn, errors, exchanges, lands, nested, orders, spans, strange, texts, walks, wished

ROOT = os.path.dirname(os.path.dirname(os.path.abspath(__file__)))

# Sent to another process: it tells what the calls answer there.
ELSEWHERE = "from tests.calls import CALLS; print([call(**right) for call, right in CALLS])"

# "Some seconds" of [3], with room for a slow machine.
SECONDS = 10


# The rows of CALLS of the functions that judge any value.
JUDGES = [(call, right) for call, right in CALLS if "value" in right and not call.__name__.endswith("_fault")]


def short(value):
    return repr(value)[:80]


class CallingTest(Asking):
    """Promise [2]."""

    def test_the_interface_names_the_parameters(self):
        for call, right in CALLS:
            with self.subTest(call.__name__):
                self.assertEqual(list(inspect.signature(call).parameters), list(right))

    def test_each_function_is_defined_in_its_file(self):
        for call, _ in CALLS:
            with self.subTest(call.__name__):
                self.assertTrue(inspect.isfunction(call))
                self.assertIn(call.__module__, [home.__name__ for home in MODULES])
                home = sys.modules[call.__module__]
                self.assertIs(getattr(home, call.__name__), call)

    def test_the_interface_is_called_whole(self):
        found = {home.__name__: [call.__name__ for call, _ in CALLS if call.__module__ == home.__name__]
                 for home in MODULES}
        self.assertEqual(found, {
            "wardsdrawn.lands": [
                "land_fault", "plan_fault", "is_land", "is_plan", "neighbours", "hangs", "pieces", "cut_places",
                "folk_of", "cut_borders", "near_wards", "ward_of", "spread", "plan_of", "turned", "turned_plan",
            ],
            "wardsdrawn.orders": [
                "is_order", "is_shut", "ordered", "order_count", "nth_order", "two_wards", "barred_sizes",
                "ward_counts", "fairest", "by_order",
            ],
            "wardsdrawn.wished": ["wished", "is_serving", "are_cases"],
            "wardsdrawn.spans": [
                "tree_count", "is_tree", "nth_tree", "tree_number", "parts", "even_cuts", "most_parts",
                "fairest_parts",
            ],
            "wardsdrawn.exchanges": [
                "fits", "near", "closed_lot", "led", "is_row", "is_closed", "closed_lots",
            ],
            "wardsdrawn.walks": ["chance", "nexts", "share", "behind", "wandered"],
            "wardsdrawn.strange": ["label", "is_strange", "chances", "strange_chance", "strange_share"],
            "wardsdrawn.nested": [
                "cut_shires", "common_lots", "is_nested", "bundled", "fewest_cut", "is_barred",
            ],
            "wardsdrawn.texts": ["land_text", "land_told", "plan_text", "plan_told", "tape_text", "tape_told"],
            "wardsdrawn.drawn": ["square", "bars", "listed", "arcs", "arcs_told"],
        })

    def test_by_position(self):
        for (call, right), answer in zip(CALLS, ANSWERS, strict=True):
            with self.subTest(call.__name__):
                self.same(call(*right.values()), answer)

    def test_by_name(self):
        for (call, right), answer in zip(CALLS, ANSWERS, strict=True):
            with self.subTest(call.__name__):
                self.same(call(**right), answer)
                self.same(call(**dict(reversed(right.items()))), answer)

    def test_first_by_position_and_the_others_by_name(self):
        for (call, right), answer in zip(CALLS, ANSWERS, strict=True):
            (_, first), *rest = right.items()
            with self.subTest(call.__name__):
                self.same(call(first, **dict(rest)), answer)

    def test_the_same_call_twice(self):
        for call, right in CALLS:
            with self.subTest(call.__name__):
                first = repr(call(**right))
                for other, its_own in CALLS:
                    other(**its_own)
                self.assertEqual(repr(call(**copy.deepcopy(right))), first)

    def test_nothing_of_an_earlier_land_is_left(self):
        for call, right in CALLS:
            if "land" not in right:
                continue
            with self.subTest(call.__name__):
                first = repr(call(**right))
                folk, borders = right["land"]
                self.ask({**right, "land": (tuple(number + 3 for number in folk), borders)}, call)
                self.ask({**right, "land": samples.full(folk)}, call)
                self.ask({**right, "land": samples.empty(folk)}, call)
                self.assertEqual(repr(call(**right)), first)

    def ask(self, arguments, call):
        try:
            call(**arguments)
        except errors.WardError:
            pass

    def test_the_same_in_another_process(self):
        for seed in ("1", "2"):
            told = subprocess.run(
                [sys.executable, "-B", "-c", ELSEWHERE], cwd=ROOT, env={**os.environ, "PYTHONHASHSEED": seed},
                capture_output=True, text=True, check=True,
            )
            self.assertEqual(told.stdout.strip(), repr(list(ANSWERS)))

    def test_arguments_stay_as_they_are(self):
        for call, right in CALLS:
            kept = copy.deepcopy(right)
            call(**right)
            with self.subTest(call.__name__):
                self.same(right, kept)

    def test_wrong_arguments_stay_as_they_are(self):
        for call, right in CALLS:
            for name in right:
                for value in [row[0] for row in wrong_for(call, name)]:
                    kept = repr(value)
                    self.ask({**right, name: value}, call)
                    self.assertEqual(repr(value), kept)

    def test_an_equal_truth_is_refused_behind_the_integer(self):
        one_and_two = ((1, 0), ((0, 1),))
        self.same(lands.land_fault(one_and_two), None)
        self.same(lands.land_fault(((True, 0), ((0, 1),))), (0, 0))
        self.same(lands.land_fault(((1, False), ((0, 1),))), (0, 1))
        self.same(lands.land_fault(((1, 0), ((0, True),))), (1, 0))
        self.same(lands.is_plan(one_and_two, ((0, 1),)), True)
        self.same(lands.is_plan(one_and_two, ((False, True),)), False)
        self.same(lands.hangs(one_and_two, (0, 1)), True)
        self.raises(errors.InvalidLot, lands.hangs, one_and_two, (0, True))
        self.same(lands.neighbours(one_and_two, 1), (0,))
        self.raises(errors.InvalidPlace, lands.neighbours, one_and_two, True)
        self.same(orders.two_wards(one_and_two, 0, 1, 1), ((0,), (1,)))
        self.raises(errors.InvalidCount, orders.two_wards, one_and_two, 0, 1, True)
        self.raises(errors.InvalidPlace, orders.two_wards, one_and_two, 0, True, 1)
        self.raises(errors.InvalidPlace, orders.two_wards, one_and_two, False, 1, 1)
        self.same(orders.nth_order(one_and_two, 0, 1, 0), (0, 1))
        self.raises(errors.InvalidCount, orders.nth_order, one_and_two, 0, 1, False)
        self.same(orders.is_order(one_and_two, 0, 1, (0, 1)), True)
        self.same(orders.is_order(one_and_two, 0, 1, (False, True)), False)

    def test_an_equal_truth_is_no_head_size_number_or_bound(self):
        land, plan = ((1, 0), ((0, 1),)), ((0,), (1,))
        self.same(wished.wished(land, (0, 1), (1, 1)), ("yes", plan))
        self.raises(errors.InvalidPart, wished.wished, land, (False, 1), (1, 1))
        self.raises(errors.InvalidPart, wished.wished, land, (0, True), (1, 1))
        self.raises(errors.InvalidPart, wished.wished, land, (0, 1), (1, True))
        self.same(wished.is_serving(land, (0, 1), (1, 1), plan), True)
        self.same(wished.is_serving(land, (0, 1), (1, 1), ((0,), (True,))), False)
        self.same(wished.are_cases(samples.empty((1, 1, 1)), (0, 1), (2, 1), ("shut", 0)), True)
        self.same(wished.are_cases(samples.empty((1, 1, 1)), (0, 1), (2, 1), ("shut", False)), False)
        self.same(spans.tree_count(land, (0, 1)), 1)
        self.same(spans.nth_tree(land, (0, 1), 0), ((0, 1),))
        self.raises(errors.InvalidCount, spans.nth_tree, land, (0, 1), False)
        self.raises(errors.InvalidLot, spans.tree_count, land, (0, True))
        self.same(spans.is_tree(land, (0, 1), ((0, 1),)), True)
        self.same(spans.is_tree(land, (0, 1), ((0, True),)), False)
        self.raises(errors.InvalidPart, spans.tree_number, land, (0, 1), ((False, 1),))
        self.raises(errors.InvalidPart, spans.parts, land, (0, 1), ((0, 1),), ((0, True),))
        self.raises(errors.InvalidBounds, spans.most_parts, land, (0, 1), ((0, 1),), True)
        self.raises(errors.InvalidCount, spans.fairest_parts, land, (0, 1), ((0, 1),), True)
        self.raises(errors.InvalidBounds, exchanges.fits, land, plan, False, 1)
        self.raises(errors.InvalidBounds, exchanges.fits, land, plan, 0, True)
        self.same(exchanges.is_row(land, plan, plan, 0, 1, (plan,)), True)
        self.same(exchanges.is_row(land, plan, plan, 0, 1, (((0,), (True,)),)), False)
        self.same(exchanges.is_closed(land, 0, 1, (plan,)), True)
        self.same(exchanges.is_closed(land, 0, 1, (((False,), (1,)),)), False)
        self.raises(errors.InvalidCount, exchanges.closed_lots, land, True, 0, 1)

    def test_an_equal_truth_is_no_weight_label_level_step_or_index(self):
        land, plan = ((1, 1), ((0, 1),)), ((0,), (1,))
        self.same(strange.label(land, plan, (1,)), 1)
        self.raises(errors.InvalidPart, strange.label, land, plan, (True,))
        self.same(strange.is_strange((1,), (1, 1)), True)
        self.raises(errors.InvalidPart, strange.is_strange, (True,), (1, 1))
        self.raises(errors.InvalidPart, strange.is_strange, (1,), (True, 1))
        self.raises(errors.InvalidPart, strange.is_strange, (1,), (1, True))
        self.same(strange.chances(land, plan, 0, 1, 1), ((plan, (1, 1)),))
        self.raises(errors.InvalidCount, strange.chances, land, plan, 0, 1, True)
        self.raises(errors.InvalidBounds, strange.chances, land, plan, False, 1, 1)
        self.raises(errors.InvalidCount, strange.strange_chance, land, plan, 0, 1, (1,), False, (1, 1))
        self.raises(errors.InvalidCount, strange.strange_share, land, plan, 0, 1, (1,), True, (1, 1))
        self.same(walks.behind(land, plan, 0, 1, 1), ((plan, (1, 1)),))
        self.raises(errors.InvalidCount, walks.behind, land, plan, 0, 1, True)
        self.raises(errors.InvalidBounds, walks.nexts, land, plan, 0, True)
        self.raises(errors.InvalidBounds, walks.share, land, plan, False, 1)
        self.same(walks.wandered(land, plan, 0, 1, ((0, 1, 0, 0),)), (plan, plan))
        self.raises(errors.InvalidPart, walks.wandered, land, plan, 0, 1, ((0, True, 0, 0),))
        self.raises(errors.InvalidPlan, nested.cut_shires, land, plan, ((False,), (1,)), field="index", worth=0)
        self.same(nested.bundled(land, plan, (1,)), (land, plan))
        self.raises(errors.InvalidPart, nested.bundled, land, plan, (True,))
        self.same(nested.is_barred(land, plan, (0,), 1, 0, 1), True)
        self.raises(errors.InvalidPart, nested.is_barred, land, plan, (False,), 1, 0, 1)
        self.raises(errors.InvalidCount, nested.is_barred, land, plan, (0,), True, 0, 1)
        self.raises(errors.InvalidCount, nested.fewest_cut, land, plan, True, 0, 1)

    def test_fractions_have_no_common_divisor(self):
        found = [walks.chance(**LED), walks.share(**FITTED), strange.strange_chance(**WEIGHED),
                 strange.strange_share(**WEIGHED)]
        found += [part for _, part in (*walks.nexts(**FITTED), *walks.behind(**FITTED, steps=6),
                                       *strange.chances(**FITTED, steps=6))]
        for steps in range(7):
            found.append(strange.strange_chance(**{**WEIGHED, "steps": steps}))
            found.append(strange.strange_share(**{**WEIGHED, "steps": steps, "level": (1, 1)}))
        for part in found:
            self.assertEqual([type(part), *map(type, part)], [tuple, int, int])
            self.assertTrue(part[1] >= 1 and gcd(*part) == 1)
        self.assertIn((0, 1), found)
        self.assertIn((1, 1), found)

    def test_a_list_is_no_tuple(self):
        for call, right in CALLS:
            for name in right:
                wrong = wrong_for(call, name)
                if wrong and type(right[name]) == tuple:
                    with self.subTest(call.__name__, name=name):
                        self.raises(wrong[0][1], call, **{**right, name: list(right[name])})
        self.same(lands.is_land(list(samples.LAND)), False)
        self.same(lands.is_plan(samples.LAND, list(samples.PLAN)), False)
        self.same(lands.is_plan(samples.LAND, ([0, 1, 2], [3, 4])), False)
        self.same(orders.is_order(samples.RING, 0, 2, [0, 3, 1, 2]), False)
        for call, right in CALLS:
            if call.__module__ not in ("wardsdrawn.lands", "wardsdrawn.orders") and "value" in right:
                with self.subTest(call.__name__):
                    self.same(call(**right), True)
                    self.same(call(**{**right, "value": list(right["value"])}), False)
                    self.same(call(**{**right, "value": (*right["value"][:-1], [right["value"][-1]])}), False)

    def test_answers_are_of_the_told_kinds(self):
        for call, right in CALLS:
            if call.__name__.startswith("is_") or call.__name__ in ("hangs", "are_cases", "fits"):
                with self.subTest(call.__name__):
                    self.assertIs(type(call(**right)), bool)
        for land in (samples.full([3] * 5), samples.empty([3] * 5)):
            self.assertIs(type(lands.hangs(land, (0, 4))), bool)
            self.assertIs(type(orders.is_shut(land, 0, 1, None, (2, 3, 4))), bool)
            self.assertIs(type(orders.is_order(land, 0, 4, (0, 1, 2, 3, 4))), bool)


class LimitsTest(Asking):
    """Promise [3]."""

    def test_lands_at_their_limits(self):
        for many in (2, 12):
            for folk in ([0] * many, [1000000] * many, range(many)):
                for land in (samples.empty(folk), samples.full(folk)):
                    self.same(lands.land_fault(land), None)
                    self.same(lands.is_land(land), True)
        self.assertEqual(len(samples.full([0] * 12)[1]), 66)

    def test_lands_past_their_limits(self):
        for land, place in ((samples.full([1] * 13), (0,)), (((1,), ()), (0,)), (((), ()), (0,)),
                            (((1, 1000001), ()), (0, 1)), (((-1, 1), ()), (0, 0))):
            self.same(lands.land_fault(land), place)
            self.same(lands.is_land(land), False)

    def test_two_places(self):
        for land, many in ((((0, 1000000), ()), 2), (((0, 1000000), ((0, 1),)), 1)):
            every = (0, 1)
            self.same(lands.pieces(land, every), ((0, 1),) if many == 1 else ((0,), (1,)))
            self.same(lands.cut_places(land, every), ())
            self.same(lands.spread(land, ((0,), (1,))), 1000000)
            self.same(lands.is_plan(land, ((0, 1),)), many == 1)
            for head, other_head in ((0, 1), (1, 0)):
                self.same(orders.ordered(land, head, other_head), ("yes", (head, other_head)))
                self.same(orders.order_count(land, head, other_head), 1)
                self.same(orders.nth_order(land, head, other_head, 0), (head, other_head))
                self.same(orders.two_wards(land, head, other_head, 1), ((head,), (other_head,)))
                self.same(orders.barred_sizes(land, head, other_head), ())
                self.same(orders.ward_counts(land, head, other_head), (1,))
                self.same(orders.fairest(land, head, other_head), (1000000, (head,), (other_head,)))
                self.same(orders.by_order(land, head, other_head, (head, other_head), 1), ((head,), (other_head,)))

    def test_wishes_trees_and_exchanges_of_two_places(self):
        alone, one = ((0,), (1,)), ((0, 1),)
        for land, many in ((((0, 1000000), ()), 0), (((0, 1000000), ((0, 1),)), 1)):
            self.same(wished.wished(land, (1, 0), (1, 1)), ("yes", ((1,), (0,))))
            self.same(wished.is_serving(land, (1, 0), (1, 1), ((1,), (0,))), True)
            self.same(wished.are_cases(land, (1, 0), (1, 1), ("shut", 0)), False)
            self.same(spans.tree_count(land, (0, 1)), many)
            self.same(spans.tree_count(land, (1,)), 1)
            self.same(spans.is_tree(land, (0, 1), ((0, 1),)), many == 1)
            self.same(spans.nth_tree(land, (0,), 0), ())
            self.same(exchanges.fits(land, alone, 0, 1000000), True)
            self.same(exchanges.near(land, alone, 0, 1000000), ())
            self.same(exchanges.closed_lot(land, alone, 0, 1000000), (alone,))
            self.same(exchanges.led(land, alone, alone, 0, 1000000), ("yes", (alone,)))
            self.same(exchanges.closed_lots(land, 2, 0, 1000000), ((alone,),))
            self.same(exchanges.closed_lots(land, 1, 0, 1000000), ((one,),) if many else ())
        land = ((0, 1000000), ((0, 1),))
        self.same(spans.nth_tree(land, (0, 1), 0), ((0, 1),))
        self.same(spans.tree_number(land, (0, 1), ((0, 1),)), 0)
        self.same(spans.parts(land, (0, 1), ((0, 1),), ()), ((0, 1),))
        self.same(spans.parts(land, (0, 1), ((0, 1),), ((0, 1),)), alone)
        self.same(spans.even_cuts(land, (0, 1), ((0, 1),), 0, 1000000), ((0, 1),))
        self.same(spans.most_parts(land, (0, 1), ((0, 1),), 1), (1, ()))
        self.same(spans.fairest_parts(land, (0, 1), ((0, 1),), 2), (0, ((0, 1),)))
        self.same(exchanges.led(land, alone, one, 0, 1000000), ("no", (alone,)))
        self.same(exchanges.is_closed(land, 0, 1000000, (alone, one)), True)

    def test_each_call_on_twelve_places_ends_soon(self):
        for land in samples.TWELVES:
            for call, right in CALLS:
                if call not in (nested.fewest_cut, nested.is_barred):
                    with self.subTest(call.__name__, land=land):
                        self.ends_soon(call, self.for_limits(call, land, right))

    def test_each_call_on_nine_places_ends_soon(self):
        for land in samples.NINES:
            for call, right in CALLS:
                if call.__module__ in ("wardsdrawn.exchanges", "wardsdrawn.walks", "wardsdrawn.nested"):
                    for count in range(1, 7):
                        with self.subTest(call.__name__, land=land, count=count):
                            self.ends_soon(call, {**self.for_limits(call, land, right), "count": count}
                                           if "count" in right else self.for_limits(call, land, right))

    def for_limits(self, call, land, right):
        """Arguments for a call on a land of twelve places, or of nine."""
        every = tuple(range(len(land[0])))
        alone = tuple((k,) for k in every)
        tree = spans.nth_tree(land, every, 0) if lands.hangs(land, every) else ()
        made = {
            "land": land, "value": land, "plan": alone, "other_plan": alone, "lot": every, "head": 0,
            "other_head": every[-1], "row": every, "order": every, "cut": None, "number": 0, "size": 6,
            "heads": (0, 3, 6, 11), "sizes": (3, 3, 3, 3), "tree": tree, "cuts": tree[::2], "low": 0,
            "high": 10 ** 89, "count": 6, "weights": (1000,) * len(land[1]), "labels": (7,) * 200, "level": (1, 3),
            "steps": 6 if call is walks.behind else 12, "tape": ((10 ** 89,) * 4,) * 200, "shires": alone,
            "wide": 100, "folk": land[0], "rows": drawn.arcs(land, alone), "text": texts.land_text(land),
        }
        if call in (texts.plan_told, texts.tape_told):
            made["text"] = texts.plan_text(land, alone) if call is texts.plan_told else "\n".join(["0 12 3 1"] * 2222)
        if call.__module__ in ("wardsdrawn.walks", "wardsdrawn.strange") and lands.hangs(land, every[:-1]):
            # Two wards have more plans to go to.
            made["plan"] = made["other_plan"] = (every[:-1], every[-1:])
        values = {
            orders.is_order: every, wished.is_serving: tuple(every[k:k + 3] for k in (0, 3, 6, 9)),
            wished.are_cases: ("lost", 5), spans.is_tree: tree, exchanges.is_row: (alone,),
            exchanges.is_closed: (alone,),
        }
        made["value"] = values.get(call, land)
        if call is orders.is_shut:
            made["lot"] = every[1:-1]
        return {name: made[name] for name in right}

    def ends_soon(self, call, arguments):
        began = time.monotonic()
        try:
            call(**arguments)
        except (errors.InvalidCount, errors.InvalidPart):
            # A land without an order, or a tree, has no number of one, and none to hand in.
            self.assertIn(call, (orders.nth_order, orders.by_order, spans.nth_tree, spans.tree_number, spans.parts,
                                 spans.even_cuts, spans.most_parts, spans.fairest_parts))
        except errors.TooMany:
            self.assertTrue(call is exchanges.closed_lots or call.__module__ == "wardsdrawn.strange")
        except errors.Refused:
            self.assertEqual(call.__module__, "wardsdrawn.walks")
        self.assertLess(time.monotonic() - began, SECONDS)

    def test_orders_where_each_two_of_twelve_are_neighbours(self):
        land = samples.full(range(12))
        began = time.monotonic()
        self.same(orders.order_count(land, 0, 11), 3628800)
        self.same(orders.ordered(land, 0, 11), ("yes", tuple(range(12))))
        self.same(orders.nth_order(land, 0, 11, 0), tuple(range(12)))
        self.same(orders.nth_order(land, 0, 11, 1814400), (0, 6, 1, 2, 3, 4, 5, 7, 8, 9, 10, 11))
        self.same(orders.nth_order(land, 0, 11, 3628799), (0, 10, 9, 8, 7, 6, 5, 4, 3, 2, 1, 11))
        self.raises(errors.InvalidCount, orders.nth_order, land, 0, 11, 3628800)
        self.same(orders.order_count(land, 7, 3), 3628800)
        self.same(orders.nth_order(land, 7, 3, 3628799), (7, 11, 10, 9, 8, 6, 5, 4, 2, 1, 0, 3))
        self.same(orders.ward_counts(land, 7, 3), (1, 10, 45, 120, 210, 252, 210, 120, 45, 10, 1))
        self.assertLess(time.monotonic() - began, 10 * SECONDS)

    def test_orders_of_a_ring_of_twelve(self):
        land = samples.ring_of(range(12))
        found = []
        for spots in combinations(range(10), 5):
            up, down = iter((1, 2, 3, 4, 5)), iter((11, 10, 9, 8, 7))
            found.append((0, *(next(up) if k in spots else next(down) for k in range(10)), 6))
        found.sort()
        self.same(orders.order_count(land, 0, 6), 252)
        for number in (0, 1, 100, 125, 126, 250, 251):
            self.same(orders.nth_order(land, 0, 6, number), found[number])

    def test_any_value_is_refused_where_an_error_is_told(self):
        for call, right in CALLS:
            for name in right:
                wrong = wrong_for(call, name)
                for value in any_wrong_for(call, name) if wrong else ():
                    worth = worth_of(call, name, value)
                    with self.subTest(call.__name__, name=name, value=short(value)):
                        began = time.monotonic()
                        self.raises(wrong[0][1], call, **{**right, name: value}, field=wrong[0][2], worth=worth)
                        self.assertLess(time.monotonic() - began, SECONDS)

    def test_any_value_may_be_judged(self):
        for value in samples.ANY_VALUES:
            with self.subTest(short(value)):
                self.same(lands.land_fault(value), ())
                self.same(lands.is_land(value), False)
                self.same(lands.plan_fault(samples.LAND, value), 0)
                self.same(lands.is_plan(samples.LAND, value), False)
                for judge, right in JUDGES:
                    began = time.monotonic()
                    self.same(judge(**{**right, "value": value}), False)
                    self.assertLess(time.monotonic() - began, SECONDS)

    def test_what_a_call_returns_may_be_handed_on(self):
        for call, right in CALLS:
            value = call(**right)
            for judge, its_own in JUDGES:
                with self.subTest(call.__name__, judge=judge.__name__):
                    self.assertIs(type(judge(**{**its_own, "value": value})), bool)

    def test_a_part_of_any_kind_within_a_right_value(self):
        for judge, right in JUDGES:
            for k in range(len(right["value"])):
                for value in samples.ANY_VALUES:
                    changed = (*right["value"][:k], value, *right["value"][k + 1:])
                    with self.subTest(judge.__name__, value=short(changed)):
                        self.assertIs(type(judge(**{**right, "value": changed})), bool)


class WrongArgumentsTest(Asking):
    """Promise [4]."""

    def test_each_wrong_argument_alone(self):
        for call, right in CALLS:
            for name in right:
                for value, error, field, worth in wrong_for(call, name):
                    with self.subTest(call.__name__, name=name, value=short(value)):
                        self.raises(error, call, **{**right, name: value}, field=field, worth=worth)

    def test_of_two_wrong_arguments_the_first_one_tells_the_error(self):
        for call, right in CALLS:
            told = [name for name in right if wrong_for(call, name)]
            for first, second in combinations(told, 2):
                for value, error, field, worth in wrong_for(call, first)[::4]:
                    for other in [row[0] for row in wrong_for(call, second)][::7]:
                        with self.subTest(call.__name__, first=short(value), second=short(other)):
                            self.raises(error, call, **{**right, first: value, second: other},
                                        field=field, worth=worth)

    def test_all_arguments_wrong(self):
        for call, right in CALLS:
            told = [name for name in right if wrong_for(call, name)]
            if told:
                with self.subTest(call.__name__):
                    nothing = {name: None for name in right}
                    self.raises(wrong_for(call, told[0])[0][1], call, **nothing)
                    self.assertEqual(told[0], next(name for name in right if name != "value"))

    def test_each_parameter_of_the_table_is_asked(self):
        asked = {name for call, right in CALLS for name in right if wrong_for(call, name)}
        self.assertEqual(asked, {"land", "plan", "other_plan", "lot", "head", "other_head", "row", "order", "cut",
                                 "size", "number", "heads", "sizes", "tree", "cuts", "low", "high", "count",
                                 "steps", "tape", "weights", "labels", "level", "shires", "text", "wide", "folk",
                                 "rows"})

    def test_both_heads_are_unlike(self):
        for call, right in CALLS:
            if "other_head" in right:
                for place in range(4):
                    with self.subTest(call.__name__, place=place):
                        self.raises(errors.InvalidPlace, call, **{**right, "head": place, "other_head": place})

    def test_heads_are_asked_ahead_of_what_stands_behind_them(self):
        self.raises(errors.InvalidPlace, orders.is_shut, samples.RING, 1, 1, "no", ())
        self.raises(errors.InvalidPlace, orders.nth_order, samples.RING, 1, 1, -1)
        self.raises(errors.InvalidPlace, orders.two_wards, samples.RING, 1, 1, 0)
        self.raises(errors.InvalidPlace, orders.by_order, samples.RING, 1, 1, (), 0)
        self.raises(errors.InvalidPart, orders.is_shut, samples.RING, 0, 2, 4, ())
        self.raises(errors.InvalidLot, orders.is_shut, samples.RING, 0, 2, None, ())
        self.raises(errors.InvalidPart, orders.by_order, samples.RING, 0, 2, (0, 1, 2), 0)
        self.raises(errors.InvalidCount, orders.by_order, samples.RING, 0, 2, (0, 1, 3, 2), 0)

    def test_other_errors_stand_behind_those_of_the_parameters(self):
        apart = (1, 2, 1, 2, 1)
        self.raises(errors.Refused, lands.plan_of, samples.LAND, apart)
        self.raises(errors.InvalidPart, lands.plan_of, samples.LAND, apart + (1,))
        self.raises(errors.InvalidPart, lands.plan_of, samples.LAND, (1, 2, 1, 2, True))
        self.raises(errors.InvalidLand, lands.plan_of, (*samples.LAND, ()), apart, field="place", worth=())

    def test_other_errors_of_exchanges_stand_behind_those_of_the_parameters(self):
        one = ((0, 1, 2, 3, 4),)
        self.raises(errors.Refused, exchanges.closed_lot, samples.LAND, one, 6, 12)
        self.raises(errors.InvalidBounds, exchanges.closed_lot, samples.LAND, one, 6, 5)
        self.raises(errors.Refused, exchanges.led, samples.LAND, one, samples.PLAN, 6, 12)
        self.raises(errors.Refused, exchanges.led, samples.LAND, samples.PLAN, one, 6, 12)
        self.raises(errors.InvalidPlan, exchanges.led, samples.LAND, one, (), 6, 12, field="index", worth=0)
        self.raises(errors.InvalidBounds, exchanges.led, samples.LAND, one, one, 12, 6)
        full = samples.full((1,) * 12)
        self.raises(errors.InvalidCount, exchanges.closed_lots, full, 13, 12, 6)
        self.raises(errors.InvalidBounds, exchanges.closed_lots, full, 12, 12, 6)
        self.raises(errors.TooMany, exchanges.closed_lots, full, 12, 6, 12, field="count", worth=12)

    def test_judges_raise_nothing_for_their_value(self):
        for value, place in samples.NO_LANDS:
            with self.subTest(short(value)):
                self.same(lands.land_fault(value), place)
                self.same(lands.is_land(value), False)
        for value, index in samples.NO_PLANS:
            with self.subTest(short(value)):
                self.same(lands.plan_fault(samples.LAND, value), index)
                self.same(lands.is_plan(samples.LAND, value), False)
        for value in samples.NO_ORDERS:
            with self.subTest(short(value)):
                self.same(orders.is_order(samples.RING, 0, 2, value), False)
        for value in samples.NO_TREES:
            with self.subTest(short(value)):
                self.same(spans.is_tree(samples.RING, (0, 1, 2, 3), value), False)
        for value, _ in samples.NO_PLANS:
            with self.subTest(short(value)):
                self.same(exchanges.is_row(samples.LAND, samples.PLAN, samples.PLAN, 0, 99, (value,)), False)
                self.same(exchanges.is_row(samples.LAND, samples.PLAN, samples.PLAN, 0, 99, value), False)
                self.same(exchanges.is_closed(samples.LAND, 0, 99, (value,)), False)
                self.same(exchanges.is_closed(samples.LAND, 0, 99, value), False)

    def test_judges_raise_for_their_other_parameters(self):
        for value in (None, samples.PLAN, ()):
            self.raises(errors.InvalidLand, lands.plan_fault, None, value, field="place", worth=())
            self.raises(errors.InvalidLand, lands.is_plan, ((1, 1), None), value, field="place", worth=(1,))
            self.raises(errors.InvalidLand, orders.is_order, ((1, -1), ()), 0, 1, value, field="place", worth=(0, 1))
            self.raises(errors.InvalidPlace, orders.is_order, samples.RING, 4, 1, value)
            self.raises(errors.InvalidPlace, orders.is_order, samples.RING, 1, 1, value)
            for judge in (wished.is_serving, wished.are_cases):
                self.raises(errors.InvalidLand, judge, None, (), (), value, field="place", worth=())
                self.raises(errors.InvalidPart, judge, samples.WISHED, (1,), (2, 2), value)
                self.raises(errors.InvalidPart, judge, samples.WISHED, (1, 2), (2, 3), value)
            self.raises(errors.InvalidLot, spans.is_tree, samples.RING, (), value)
            self.raises(errors.InvalidPlan, exchanges.is_row, samples.LAND, (), None, 0, 9, value,
                        field="index", worth=0)
            self.raises(errors.InvalidPlan, exchanges.is_row, samples.LAND, samples.PLAN, ((0,),), 0, 9, value,
                        field="index", worth=1)
            self.raises(errors.InvalidBounds, exchanges.is_row, samples.LAND, samples.PLAN, samples.PLAN, 9, 8, value)
            self.raises(errors.InvalidBounds, exchanges.is_closed, samples.LAND, 9, 8, value)


if __name__ == "__main__":
    unittest.main()
