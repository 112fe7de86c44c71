"""The whole program: all examples of the document, the whole interface, and where each error is raised."""

import ast
import importlib
import inspect
import os
import unittest

from tests import samples
from tests.asking import Asking
from tests.examples import EXAMPLES
from wardsdrawn import errors, exchanges, lands, nested, orders, spans, strange, texts, walks, wished
from wardsdrawn.console import Console
from wardsdrawn.desk import Desk
from wardsdrawn.drawn import arcs_told, bars

ROOT = os.path.dirname(os.path.dirname(os.path.abspath(__file__)))

# Each function of the interface, with the names of its parameters, by its file.
FUNCTIONS = {
    "lands": (
        "land_fault(value)", "plan_fault(land, value)", "is_land(value)", "is_plan(land, value)",
        "neighbours(land, head)", "hangs(land, lot)", "pieces(land, lot)", "cut_places(land, lot)",
        "folk_of(land, lot)", "cut_borders(land, plan)", "near_wards(land, plan)", "ward_of(land, plan, head)",
        "spread(land, plan)", "plan_of(land, row)", "turned(land, order)", "turned_plan(land, plan, order)",
    ),
    "orders": (
        "is_order(land, head, other_head, value)", "is_shut(land, head, other_head, cut, lot)",
        "ordered(land, head, other_head)", "order_count(land, head, other_head)",
        "nth_order(land, head, other_head, number)", "two_wards(land, head, other_head, size)",
        "barred_sizes(land, head, other_head)", "ward_counts(land, head, other_head)",
        "fairest(land, head, other_head)", "by_order(land, head, other_head, order, size)",
    ),
    "wished": (
        "wished(land, heads, sizes)", "is_serving(land, heads, sizes, value)", "are_cases(land, heads, sizes, value)",
    ),
    "spans": (
        "tree_count(land, lot)", "is_tree(land, lot, value)", "nth_tree(land, lot, number)",
        "tree_number(land, lot, tree)", "parts(land, lot, tree, cuts)", "even_cuts(land, lot, tree, low, high)",
        "most_parts(land, lot, tree, low)", "fairest_parts(land, lot, tree, count)",
    ),
    "exchanges": (
        "fits(land, plan, low, high)", "near(land, plan, low, high)", "closed_lot(land, plan, low, high)",
        "led(land, plan, other_plan, low, high)", "is_row(land, plan, other_plan, low, high, value)",
        "is_closed(land, low, high, value)", "closed_lots(land, count, low, high)",
    ),
    "walks": (
        "chance(land, plan, other_plan, low, high)", "nexts(land, plan, low, high)", "share(land, plan, low, high)",
        "behind(land, plan, low, high, steps)", "wandered(land, plan, low, high, tape)",
    ),
    "strange": (
        "label(land, plan, weights)", "is_strange(labels, level)", "chances(land, plan, low, high, steps)",
        "strange_chance(land, plan, low, high, weights, steps, level)",
        "strange_share(land, plan, low, high, weights, steps, level)",
    ),
    "nested": (
        "cut_shires(land, plan, shires)", "common_lots(land, plan, shires)", "is_nested(land, plan, other_plan)",
        "bundled(land, shires, lot)", "fewest_cut(land, shires, count, low, high)",
        "is_barred(land, shires, lot, count, low, high)",
    ),
    "texts": (
        "land_text(land)", "land_told(text)", "plan_text(land, plan)", "plan_told(land, text)", "tape_text(tape)",
        "tape_told(text)",
    ),
    "drawn": (
        "square(land, plan)", "bars(land, plan, wide)", "listed(land, plan)", "arcs(land, plan)",
        "arcs_told(folk, rows)",
    ),
}
# Each method of the classes, with the names of its parameters.
METHODS = {
    Desk: (
        "__init__(self, land, plan, low, high)", "give(self, head, number)", "trade(self, head, other_head)",
        "join(self, number, other_number)", "part(self, number, lot)", "undo(self)", "redo(self)",
        "ward_of(self, head)", "folk(self)", "cut(self)", "could(self)", "within(self, low, high)", "fork(self)",
    ),
    Console: ("__init__(self)", "execute(self, command)"),
}
ERRORS = ("WardError", "InvalidLot", "InvalidPlace", "InvalidBounds", "InvalidCount", "InvalidPart", "Refused",
          "InvalidLand", "InvalidPlan", "InvalidPaper", "InvalidText", "InvalidCommand", "TooMany", "Unknown", "Twice")

LAND, PLAN, RING = samples.LAND, samples.PLAN, samples.RING
ONE = ((0, 1, 2, 3, 4),)
NINE, TEN, TWELVE = (samples.full((1,) * many) for many in (9, 10, 12))
ALONE = tuple((k,) for k in range(12))
HALVES = (tuple(range(6)), tuple(range(6, 12)))
# Where the points, and the table of [4], tell an error: the error, the name of its field or None, its worth, the call.
RAISED = (
    ("InvalidLand", "place", (0, 1), lands.spread, ((5, -2), ()), PLAN),
    ("InvalidPlan", "index", 2, lands.spread, LAND, ((0, 1, 2), (3,), (4, 5))),
    ("InvalidLot", None, None, lands.hangs, LAND, ()),
    ("InvalidPlace", None, None, lands.neighbours, LAND, 5),
    ("InvalidPlace", None, None, orders.ordered, RING, 1, 1),
    ("InvalidBounds", None, None, exchanges.fits, LAND, PLAN, 3, 2),
    ("InvalidBounds", None, None, spans.most_parts, RING, (0, 1), ((0, 1),), -1),
    ("InvalidPart", None, None, lands.plan_of, LAND, ()),
    ("Refused", None, None, lands.plan_of, LAND, (1, 2, 1, 2, 1)),
    ("InvalidPart", None, None, lands.turned, LAND, (0,)),
    ("InvalidPart", None, None, lands.turned_plan, LAND, PLAN, (0,)),
    ("InvalidPart", None, None, orders.is_shut, RING, 0, 2, "no", (1,)),
    ("InvalidCount", None, None, orders.nth_order, RING, 0, 2, 2),
    ("InvalidCount", None, None, orders.two_wards, RING, 0, 2, 4),
    ("InvalidPart", None, None, orders.by_order, RING, 0, 2, (0, 1), 1),
    ("InvalidCount", None, None, orders.by_order, RING, 0, 2, (0, 1, 3, 2), 0),
    ("InvalidPart", None, None, wished.wished, RING, (0,), (4,)),
    ("InvalidPart", None, None, wished.is_serving, RING, (0, 1), (4, 0), ()),
    ("InvalidPart", None, None, wished.are_cases, RING, (0, 0), (2, 2), ()),
    ("InvalidCount", None, None, spans.nth_tree, RING, (0, 1, 2, 3), 4),
    ("InvalidPart", None, None, spans.tree_number, RING, (0, 1), ()),
    ("InvalidPart", None, None, spans.parts, RING, (0, 1), ((0, 1),), ((1, 2),)),
    ("InvalidCount", None, None, spans.fairest_parts, RING, (0, 1), ((0, 1),), 3),
    ("Refused", None, None, exchanges.closed_lot, LAND, PLAN, 8, 9),
    ("TooMany", "count", 2000, exchanges.closed_lot, TWELVE, HALVES, 0, 12),
    ("Refused", None, None, exchanges.led, LAND, PLAN, ONE, 6, 12),
    ("TooMany", "count", 2000, exchanges.led, TWELVE, HALVES, HALVES, 0, 12),
    ("InvalidCount", None, None, exchanges.closed_lots, LAND, 6, 0, 9),
    ("TooMany", "count", 10, exchanges.closed_lots, TEN, 1, 0, 9),
    ("TooMany", "count", 2000, exchanges.closed_lots, NINE, 4, 0, 9),
    ("Refused", None, None, walks.chance, TEN, ALONE[:10], ALONE[:10], 0, 9),
    ("Refused", None, None, walks.nexts, LAND, PLAN, 8, 9),
    ("Refused", None, None, walks.share, LAND, PLAN, 8, 9),
    ("InvalidCount", None, None, walks.behind, LAND, PLAN, 6, 12, 7),
    ("TooMany", "count", 400, walks.behind, NINE, ((0,), (1,), tuple(range(2, 9))), 0, 9, 6),
    ("InvalidPart", None, None, walks.wandered, LAND, PLAN, 6, 12, None),
    ("Refused", None, None, walks.wandered, LAND, PLAN, 6, 9, ()),
    ("InvalidPart", None, None, strange.label, LAND, PLAN, ()),
    ("InvalidPart", None, None, strange.is_strange, (), (1, 2)),
    ("InvalidPart", None, None, strange.is_strange, (1,), (2, 4)),
    ("InvalidCount", None, None, strange.chances, LAND, PLAN, 6, 12, 13),
    ("Refused", None, None, strange.chances, LAND, ONE, 0, 99, 1),
    ("TooMany", "count", 200, strange.strange_chance, TWELVE, HALVES, 0, 12, (1,) * 66, 0, (1, 2)),
    ("TooMany", "count", 200, strange.strange_share, TWELVE, HALVES, 0, 12, (1,) * 66, 0, (1, 2)),
    ("InvalidPlan", "index", 0, nested.cut_shires, LAND, PLAN, ()),
    ("InvalidPart", None, None, nested.bundled, LAND, PLAN, (2,)),
    ("Refused", None, None, nested.bundled, LAND, ONE, (0,)),
    ("InvalidCount", None, None, nested.fewest_cut, LAND, PLAN, 7, 0, 9),
    ("InvalidPart", None, None, nested.is_barred, LAND, PLAN, None, 1, 0, 9),
    ("Refused", None, None, Desk, LAND, PLAN, 8, 9),
    ("InvalidCount", None, None, Desk(LAND, PLAN, 0, 99).join, 0, 2),
    ("Refused", None, None, Desk(LAND, PLAN, 0, 99).undo),
    ("InvalidText", "index", 8, texts.land_told, "folk 1 01"),
    ("Twice", "word", "0-12", texts.land_told, "folk 1 1\n12: 0\n0: 12"),
    ("InvalidLand", "place", (1, 0), texts.land_told, "folk 1 1\n12: 0"),
    ("InvalidText", "index", 3, texts.plan_told, LAND, "0 1,"),
    ("Twice", "word", "1", texts.plan_told, LAND, "0 1\n1"),
    ("InvalidPlan", "index", 1, texts.plan_told, LAND, "0 1"),
    ("InvalidText", "index", 0, texts.tape_told, None),
    ("InvalidCount", None, None, bars, LAND, PLAN, 0),
    ("InvalidPart", None, None, arcs_told, (5,), ("a",)),
    ("InvalidPart", None, None, arcs_told, (5, 2), ("a a",)),
    ("InvalidCommand", "index", 4, Console().execute, "plan 1"),
    ("Refused", None, None, Console().execute, "plan"),
)


def parted(text):
    """The name and the list of the names of the parameters of a row of the interface."""
    name, _, rest = text.partition("(")
    return name, [word for word in rest.rstrip(")").split(", ") if word]


class ExamplesTest(Asking):
    """The examples of the whole document, in its sequence, in one namespace."""

    def test_all_examples(self):
        names = {name: getattr(errors, name) for name in ERRORS}
        for home in (*FUNCTIONS, "desk", "console"):
            module = importlib.import_module(f"wardsdrawn.{home}")
            names.update({name: getattr(module, name) for name in dir(module) if not name.startswith("_")})
        names["wished"] = wished.wished
        many = 0
        for asked, wanted in self.rows():
            with self.subTest(asked):
                many += 1
                if wanted is None:
                    exec(asked, names)
                elif wanted.startswith("raises "):
                    self.raised(asked, wanted.removeprefix("raises "), names)
                else:
                    self.assertEqual(repr(eval(asked, names)), repr(eval(wanted, {})))
        self.assertEqual(many, 53)

    def rows(self):
        """The pairs of what is asked and what is answered, None where nothing is."""
        found = []
        for line in EXAMPLES.strip("\n").split("\n"):
            if line.startswith(">>> "):
                found.append((line[4:], None))
            elif line:
                found[-1] = (found[-1][0], line)
        return found

    def raised(self, asked, wanted, names):
        told = eval(wanted, names)
        with self.assertRaises(errors.WardError) as caught:
            eval(asked, names)
        self.assertIs(type(caught.exception), type(told))
        self.same(vars(caught.exception), vars(told))


class InterfaceTest(Asking):

    def test_each_function(self):
        for home, rows in FUNCTIONS.items():
            module = importlib.import_module(f"wardsdrawn.{home}")
            with open(module.__file__, encoding="ascii") as file:
                told = {node.name for node in ast.parse(file.read()).body if isinstance(node, ast.FunctionDef)}
            for row in rows:
                name, parameters = parted(row)
                with self.subTest(home, name=name):
                    self.assertIn(name, told)
                    signature = inspect.signature(getattr(module, name))
                    self.assertEqual(list(signature.parameters), parameters)
                    for parameter in signature.parameters.values():
                        self.assertEqual((parameter.kind, parameter.default),
                                         (parameter.POSITIONAL_OR_KEYWORD, parameter.empty))

    def test_each_class(self):
        for made, rows in METHODS.items():
            self.assertEqual(made.__module__, f"wardsdrawn.{made.__name__.lower()}")
            self.assertEqual(made.__bases__, (object,))
            for row in rows:
                name, parameters = parted(row)
                with self.subTest(made.__name__, name=name):
                    self.assertIn(name, vars(made))
                    self.assertEqual(list(inspect.signature(vars(made)[name]).parameters), parameters)

    def test_properties_of_a_desk(self):
        desk = Desk(LAND, PLAN, 6, 12)
        self.same([desk.land, desk.plan, desk.low, desk.high, desk.edits], [LAND, PLAN, 6, 12, 0])

    def test_each_error(self):
        for name in ERRORS:
            made = getattr(errors, name)
            self.assertEqual((made.__module__, made.__name__), ("wardsdrawn.errors", name))
            self.assertEqual(made.__bases__, (ValueError if name == "WardError" else errors.WardError,))

    def test_the_package_holds_nothing_else(self):
        files = sorted(name for name in os.listdir(os.path.join(ROOT, "wardsdrawn")) if name != "__pycache__")
        self.assertEqual(files, sorted([*(f"{home}.py" for home in FUNCTIONS), "__init__.py", "console.py", "desk.py",
                                        "errors.py", "ground.py"]))

    def test_all_is_imported_alone(self):
        for home in (*FUNCTIONS, "desk", "console", "errors"):
            self.assertEqual(importlib.import_module(f"wardsdrawn.{home}").__name__, f"wardsdrawn.{home}")


class ErrorsTest(Asking):

    def test_where_each_error_is_raised(self):
        for name, field, worth, call, *arguments in RAISED:
            with self.subTest(name, call=call.__name__, arguments=repr(arguments)[:80]):
                self.raises(getattr(errors, name), call, *arguments, field=field, worth=worth)

    def test_each_error_of_a_point_is_raised(self):
        # No point tells where InvalidPaper and Unknown are raised; they are there to be made.
        self.assertEqual({name for name, *_ in RAISED} | {"WardError", "InvalidPaper", "Unknown"}, set(ERRORS))


if __name__ == "__main__":
    unittest.main()
