"""The calls of the three modules: for each one right arguments, and for each parameter what is wrong for it."""

from tests import samples
from wardsdrawn import errors, lands, orders

PLACED = {"land": samples.LAND, "head": 2}
LOTTED = {"land": samples.LAND, "lot": (0, 1, 3)}
PLANNED = {"land": samples.LAND, "plan": samples.PLAN}
HEADED = {"land": samples.RING, "head": 0, "other_head": 2}

# A row for each function: it, and right arguments, by the names and in the sequence of the interface.
CALLS = (
    (lands.land_fault, {"value": samples.LAND}),
    (lands.plan_fault, {"land": samples.LAND, "value": samples.PLAN}),
    (lands.is_land, {"value": samples.LAND}),
    (lands.is_plan, {"land": samples.LAND, "value": samples.PLAN}),
    (lands.neighbours, PLACED),
    (lands.hangs, LOTTED),
    (lands.pieces, LOTTED),
    (lands.cut_places, LOTTED),
    (lands.folk_of, LOTTED),
    (lands.cut_borders, PLANNED),
    (lands.near_wards, PLANNED),
    (lands.ward_of, {**PLANNED, "head": 3}),
    (lands.spread, PLANNED),
    (lands.plan_of, {"land": samples.LAND, "row": (7, 7, 7, -1, -1)}),
    (lands.turned, {"land": samples.LAND, "order": (1, 2, 0, 3, 4)}),
    (lands.turned_plan, {**PLANNED, "order": (1, 2, 0, 3, 4)}),
    (orders.is_order, {**HEADED, "value": (0, 3, 1, 2)}),
    (orders.is_shut, {**HEADED, "cut": 1, "lot": (3,)}),
    (orders.ordered, HEADED),
    (orders.order_count, HEADED),
    (orders.nth_order, {**HEADED, "number": 1}),
    (orders.two_wards, {**HEADED, "size": 2}),
    (orders.barred_sizes, HEADED),
    (orders.ward_counts, HEADED),
    (orders.fairest, HEADED),
    (orders.by_order, {**HEADED, "order": (0, 3, 1, 2), "size": 2}),
)

# What the calls of CALLS answer.
ANSWERS = (
    None, None, True, True, (0, 1, 3), False, ((0, 1), (3,)), (), 11, ((2, 3),), ((0, 1),), 1, 4, samples.PLAN,
    ((2, 0, 5, 4, 7), ((0, 1), (0, 2), (1, 2), (1, 3), (3, 4))), ((0, 1, 2), (3, 4)),
    True, False, ("yes", (0, 1, 3, 2)), 2, (0, 3, 1, 2),
    ((0, 1), (2, 3)), (), (1, 2, 1), (0, (0, 1), (2, 3)), ((0, 3), (1, 2)),
)


def told(error, values, field=None):
    """Rows (value, error class, field, worth) of values that are wrong alike."""
    return [(value, error, field, None) for value in values]


def wrong_for(call, name):
    """Rows (value, error class, name of its field or None, worth of it) of wrong arguments for a parameter."""
    if name == "land":
        return [(value, errors.InvalidLand, "place", place) for value, place in samples.NO_LANDS]
    if name == "plan":
        return [(value, errors.InvalidPlan, "index", index) for value, index in samples.NO_PLANS]
    if name == "order" and call is orders.by_order:
        return told(errors.InvalidPart, samples.NO_ORDERS)
    table = {
        "lot": (errors.InvalidLot, samples.NO_LOTS),
        "head": (errors.InvalidPlace, samples.NO_HEADS),
        "other_head": (errors.InvalidPlace, samples.NO_OTHER_HEADS),
        "row": (errors.InvalidPart, samples.NO_ROWS),
        "order": (errors.InvalidPart, samples.NO_TURNS),
        "cut": (errors.InvalidPart, samples.NO_CUTS),
        "size": (errors.InvalidCount, samples.NO_SIZES),
        "number": (errors.InvalidCount, samples.NO_NUMBERS),
    }
    return told(*table[name]) if name in table else []
