"""The calls of the modules: for each one right arguments, and for each parameter what is wrong for it."""

from tests import samples
from wardsdrawn import drawn, errors, exchanges, lands, nested, orders, spans, strange, texts, walks, wished

MODULES = (lands, orders, wished, spans, exchanges, walks, strange, nested, texts, drawn)

PLACED = {"land": samples.LAND, "head": 2}
LOTTED = {"land": samples.LAND, "lot": (0, 1, 3)}
PLANNED = {"land": samples.LAND, "plan": samples.PLAN}
HEADED = {"land": samples.RING, "head": 0, "other_head": 2}
WISHED = {"land": samples.WISHED, "heads": (1, 2), "sizes": (2, 2)}
WHOLE = {"land": samples.RING, "lot": (0, 1, 2, 3)}
GROWN = {**WHOLE, "tree": samples.RING_TREE}
BOUNDED = {"low": 6, "high": 12}
FITTED = {**PLANNED, **BOUNDED}
LED = {**PLANNED, "other_plan": ((0, 1, 2, 3), (4,)), **BOUNDED}
WEIGHED = {**FITTED, "weights": (1, 1, 1, 1, 1), "steps": 1, "level": (1, 2)}
SHIRED = {**PLANNED, "shires": ((0, 1), (2, 3, 4))}
BUNDLED = {"land": samples.LAND, "shires": ((0, 1), (2, 3, 4)), "lot": (1,)}

# The plans of two wards of samples.LAND that fit 6 and 12: 7 and 11 folk, 7 and 11, 11 and 7.
CLOSED = (((0, 1), (2, 3, 4)), ((0, 1, 2), (3, 4)), ((0, 1, 2, 3), (4,)))

# A row for each function: it, and right arguments, by the names and in the sequence of the interface.
CALLS = (
    (lands.land_fault, {"value": samples.LAND}),
    (lands.plan_fault, {"land": samples.LAND, "value": samples.PLAN}),
    (lands.is_land, {"value": samples.LAND}),
    (lands.is_plan, {"land": samples.LAND, "value": samples.PLAN}),
    (lands.neighbours, PLACED),
    (lands.hangs, LOTTED),
    (lands.pieces, LOTTED),
    (lands.cut_places, LOTTED),
    (lands.folk_of, LOTTED),
    (lands.cut_borders, PLANNED),
    (lands.near_wards, PLANNED),
    (lands.ward_of, {**PLANNED, "head": 3}),
    (lands.spread, PLANNED),
    (lands.plan_of, {"land": samples.LAND, "row": (7, 7, 7, -1, -1)}),
    (lands.turned, {"land": samples.LAND, "order": (1, 2, 0, 3, 4)}),
    (lands.turned_plan, {**PLANNED, "order": (1, 2, 0, 3, 4)}),
    (orders.is_order, {**HEADED, "value": (0, 3, 1, 2)}),
    (orders.is_shut, {**HEADED, "cut": 1, "lot": (3,)}),
    (orders.ordered, HEADED),
    (orders.order_count, HEADED),
    (orders.nth_order, {**HEADED, "number": 1}),
    (orders.two_wards, {**HEADED, "size": 2}),
    (orders.barred_sizes, HEADED),
    (orders.ward_counts, HEADED),
    (orders.fairest, HEADED),
    (orders.by_order, {**HEADED, "order": (0, 3, 1, 2), "size": 2}),
    (wished.wished, WISHED),
    (wished.is_serving, {**WISHED, "value": ((0, 1), (2, 3))}),
    (wished.are_cases, {**WISHED, "sizes": (1, 3), "value": ("split", 0, (("over", 0), ("shut", 1)))}),
    (spans.tree_count, WHOLE),
    (spans.is_tree, {**WHOLE, "value": samples.RING_TREE}),
    (spans.nth_tree, {**WHOLE, "number": 2}),
    (spans.tree_number, GROWN),
    (spans.parts, {**GROWN, "cuts": ((1, 2),)}),
    (spans.even_cuts, {**GROWN, "low": 3, "high": 5}),
    (spans.most_parts, {**GROWN, "low": 3}),
    (spans.fairest_parts, {**GROWN, "count": 2}),
    (exchanges.fits, FITTED),
    (exchanges.near, FITTED),
    (exchanges.closed_lot, FITTED),
    (exchanges.led, LED),
    (exchanges.is_row, {**LED, "value": CLOSED[1:]}),
    (exchanges.is_closed, {"land": samples.LAND, **BOUNDED, "value": CLOSED}),
    (exchanges.closed_lots, {"land": samples.LAND, "count": 2, **BOUNDED}),
    (walks.chance, LED),
    (walks.nexts, FITTED),
    (walks.share, FITTED),
    (walks.behind, {**FITTED, "steps": 2}),
    (walks.wandered, {**FITTED, "tape": ((0, 0, 1, 0), (3, 5, 2, 9))}),
    (strange.label, {**PLANNED, "weights": (1, 20, 300, -1000, 7)}),
    (strange.is_strange, {"labels": (1, 2, 3), "level": (1, 3)}),
    (strange.chances, {**FITTED, "steps": 1}),
    (strange.strange_chance, WEIGHED),
    (strange.strange_share, WEIGHED),
    (nested.cut_shires, SHIRED),
    (nested.common_lots, SHIRED),
    (nested.is_nested, {**PLANNED, "other_plan": SHIRED["shires"]}),
    (nested.bundled, BUNDLED),
    (nested.fewest_cut, {"land": samples.LAND, "shires": SHIRED["shires"], "count": 2, **BOUNDED}),
    (nested.is_barred, {**BUNDLED, "count": 2, **BOUNDED}),
    (texts.land_text, {"land": samples.LAND}),
    (texts.land_told, {"text": "folk 5 2 0 4 7\n3: 2 4\n0: 2 1\n2: 1"}),
    (texts.plan_text, PLANNED),
    (texts.plan_told, {"land": samples.LAND, "text": "4 3\n2 0 1"}),
    (texts.tape_text, {"tape": ((0, 12, 3, 1), (5, 6, 7, 8))}),
    (texts.tape_told, {"text": "0 12 3 1\n5 6 7 8"}),
    (drawn.square, PLANNED),
    (drawn.bars, {**PLANNED, "wide": 5}),
    (drawn.listed, PLANNED),
    (drawn.arcs, PLANNED),
    (drawn.arcs_told, {"folk": samples.LAND[0], "rows": samples.ARCS}),
)

# What the calls of CALLS answer.
ANSWERS = (
    None, None, True, True, (0, 1, 3), False, ((0, 1), (3,)), (), 11, ((2, 3),), ((0, 1),), 1, 4, samples.PLAN,
    ((2, 0, 5, 4, 7), ((0, 1), (0, 2), (1, 2), (1, 3), (3, 4))), ((0, 1, 2), (3, 4)),
    True, False, ("yes", (0, 1, 3, 2)), 2, (0, 3, 1, 2),
    ((0, 1), (2, 3)), (), (1, 2, 1), (0, (0, 1), (2, 3)), ((0, 3), (1, 2)),
    ("yes", ((0, 1), (2, 3))), True, True,
    4, True, samples.RING_TREE, 2, ((0, 1), (2, 3)), ((0, 1), (1, 2)), (2, ((0, 1),)), (4, ((1, 2),)),
    True, (CLOSED[0], CLOSED[2]), CLOSED, ("yes", CLOSED[1:]), True, True, (CLOSED,),
    (1, 4), ((CLOSED[0], (1, 12)), (CLOSED[1], (2, 3)), (CLOSED[2], (1, 4))), (3, 7),
    ((CLOSED[0], (17, 144)), (CLOSED[1], (19, 36)), (CLOSED[2], (17, 48))), (samples.PLAN, CLOSED[0], samples.PLAN),
    -1000, True, ((CLOSED[0], (1, 5)), (CLOSED[1], (3, 5)), (CLOSED[2], (1, 5))), (1, 5), (1, 15),
    (1,), ((0, 1), (2,), (3, 4)), False, (((5, 2, 11), ((0, 1), (0, 2), (1, 2))), ((0,), (1,), (2, 3, 4))),
    ((), CLOSED[0]), False,
    "folk 5 2 0 4 7\n0: 1 2\n1: 2\n2: 3\n3: 4", samples.LAND, "0 1 2\n3 4", samples.PLAN,
    "0 12 3 1\n5 6 7 8", ((0, 12, 3, 1), (5, 6, 7, 8)),
    ("a--..", "-a-..", "--a#.", "..#b-", "...-b"), ("a ###+.", "b #####"), ("a 7 : 0 1 2", "b 11 : 3 4"), samples.ARCS,
    (samples.LAND, samples.PLAN),
)

# Of samples.ANY_VALUES, these are right for a parameter.
RIGHT_VALUES = {
    "cut": (None,), "cuts": ((),), "tape": ((),), "high": (12, 10 ** 89, 10 ** 90 - 1), "wide": (12,),
}

# And these are right for a parameter of one call.
RIGHT_VALUES_FOR = {
    (spans.most_parts, "low"): RIGHT_VALUES["high"],
    (nested.bundled, "lot"): ((),),
    (nested.is_barred, "lot"): ((),),
    (strange.chances, "steps"): (12,),
    (strange.strange_chance, "steps"): (12,),
    (strange.strange_share, "steps"): (12,),
    (texts.tape_told, "text"): ("",),
}


def told(error, values, field=None):
    """Rows (value, error class, field, worth) of values that are wrong alike."""
    return [(value, error, field, None) for value in values]


# What is wrong for a parameter, whichever call it is of.
WRONG = {
    "lot": (errors.InvalidLot, samples.NO_LOTS),
    "head": (errors.InvalidPlace, samples.NO_HEADS),
    "other_head": (errors.InvalidPlace, samples.NO_OTHER_HEADS),
    "row": (errors.InvalidPart, samples.NO_ROWS),
    "order": (errors.InvalidPart, samples.NO_TURNS),
    "cut": (errors.InvalidPart, samples.NO_CUTS),
    "size": (errors.InvalidCount, samples.NO_SIZES),
    "number": (errors.InvalidCount, samples.NO_NUMBERS),
    "heads": (errors.InvalidPart, samples.NO_WISHED_HEADS),
    "sizes": (errors.InvalidPart, samples.NO_WISHED_SIZES),
    "tree": (errors.InvalidPart, samples.NO_TREES),
    "cuts": (errors.InvalidPart, samples.NO_CUTS_OF_TREE),
    "low": (errors.InvalidBounds, samples.NO_LOWS_BELOW_HIGH),
    "high": (errors.InvalidBounds, samples.NO_HIGHS),
    "count": (errors.InvalidCount, samples.NO_WARD_COUNTS),
    "steps": (errors.InvalidCount, samples.NO_MANY_STEPS),
    "tape": (errors.InvalidPart, samples.NO_TAPES),
    "weights": (errors.InvalidPart, samples.NO_WEIGHTS),
    "labels": (errors.InvalidPart, samples.NO_LABELS),
    "level": (errors.InvalidPart, samples.NO_LEVELS),
    "wide": (errors.InvalidCount, samples.NO_WIDES),
    "folk": (errors.InvalidPart, samples.NO_FOLK),
    "rows": (errors.InvalidPart, samples.NO_ARCS),
}

# What is wrong for a parameter of one call alone.
WRONG_FOR = {
    (orders.by_order, "order"): (errors.InvalidPart, samples.NO_ORDERS),
    (spans.nth_tree, "number"): (errors.InvalidCount, samples.NO_TREE_NUMBERS),
    (spans.even_cuts, "high"): (errors.InvalidBounds, (2, *samples.NO_HIGHS[1:])),
    (spans.most_parts, "low"): (errors.InvalidBounds, samples.NO_LOWS),
    (spans.fairest_parts, "count"): (errors.InvalidCount, samples.NO_PART_COUNTS),
    (walks.behind, "steps"): (errors.InvalidCount, samples.NO_FEW_STEPS),
    (nested.bundled, "lot"): (errors.InvalidPart, samples.NO_SHIRE_LOTS),
    (nested.is_barred, "lot"): (errors.InvalidPart, samples.NO_SHIRE_LOTS),
    (nested.fewest_cut, "count"): (errors.InvalidCount, samples.NO_SHIRE_COUNTS),
    (nested.is_barred, "count"): (errors.InvalidCount, samples.NO_SHIRE_COUNTS),
    # Right tapes are the care of who calls this.
    (texts.tape_text, "tape"): None,
}

NO_TEXTS = {
    texts.land_told: samples.NO_LAND_TEXTS,
    texts.plan_told: samples.NO_PLAN_TEXTS,
    texts.tape_told: samples.NO_TAPE_TEXTS,
}


def wrong_for(call, name):
    """Rows (value, error class, name of its field or None, worth of it) of wrong arguments for a parameter."""
    if name == "land":
        return [(value, errors.InvalidLand, "place", place) for value, place in samples.NO_LANDS]
    if name in ("plan", "other_plan", "shires"):
        return [(value, errors.InvalidPlan, "index", index) for value, index in samples.NO_PLANS]
    if name == "text":
        return [(value, errors.InvalidText, "index", index) for value, index in NO_TEXTS[call]]
    row = WRONG_FOR.get((call, name), WRONG.get(name))
    return told(*row) if row else []


def worth_of(call, name, value):
    """What the error of one of samples.ANY_VALUES keeps in its field."""
    if name == "text" and value == "01":
        return 0 if call is texts.land_told else 1
    return {"land": (), "plan": 0, "other_plan": 0, "shires": 0, "text": 0}.get(name)


def any_wrong_for(call, name):
    """The values of samples.ANY_VALUES that are wrong for a parameter of a call."""
    # An integer above high is wrong as a low beside it.
    right = RIGHT_VALUES_FOR.get((call, name), (12,) if name == "low" else RIGHT_VALUES.get(name, ()))
    return [value for value in samples.ANY_VALUES if repr(value) not in [repr(known) for known in right]]
