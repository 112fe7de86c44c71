"""A plain judge of exchanges for the tests, by walking through all plans of a land.

Nothing of the package is used here.
"""

from tests import judge


def fits(land, plan, low, high):
    return all(low <= judge.folk_of(land, ward) <= high for ward in plan)


def fitting(land, low, high):
    """All plans that fit, as tuples compare."""
    return [plan for plan in judge.plans(land) if fits(land, plan, low, high)]


def exchanged(land, plan):
    """The set of all plans that come by one exchange of a plan, whether they fit or not."""
    found = set()
    for ward in plan:
        for place in ward:
            left = judge.without(ward, place)
            if not left or not judge.joined(land, left):
                continue
            for other in plan:
                if other != ward and any(judge.linked(land, place, there) for there in other):
                    rest = [kept for kept in plan if kept not in (ward, other)]
                    found.add(tuple(sorted([*rest, left, tuple(sorted(other + (place,)))])))
    return found


def near_of(land, low, high):
    """The dict that gives for each plan that fits the lot of those that fit and are one exchange apart."""
    plans = fitting(land, low, high)
    known = set(plans)
    return {plan: tuple(sorted(exchanged(land, plan) & known)) for plan in plans}


def closed_lot(near, plan):
    """The least closed lot of a plan, by the dict of near_of."""
    seen = {plan}
    waiting = [plan]
    while waiting:
        for other in near[waiting.pop()]:
            if other not in seen:
                seen.add(other)
                waiting.append(other)
    return tuple(sorted(seen))


def closed_lots(near, count):
    return tuple(sorted({closed_lot(near, plan) for plan in near if len(plan) == count}))


def shortest_rows(near, plan, other_plan):
    """All rows with the fewest plans from one plan to another that some row leads to."""
    rows = [(plan,)]
    seen = {plan}
    while not any(row[-1] == other_plan for row in rows):
        rows = [row + (step,) for row in rows for step in near[row[-1]] if step not in seen]
        seen |= {row[-1] for row in rows}
    return [row for row in rows if row[-1] == other_plan]


def led(near, plan, other_plan):
    lot = closed_lot(near, plan)
    if other_plan not in lot:
        return ("no", lot)
    return ("yes", min(shortest_rows(near, plan, other_plan)))


def is_row(near, plan, other_plan, value):
    """Whether a tuple of tuples of tuples of integers is a row of plans that fit."""
    if not value or value[0] != plan or value[-1] != other_plan or not all(told in near for told in value):
        return False
    return all(value[k + 1] in near[value[k]] for k in range(len(value) - 1))


def is_closed(near, value):
    """Whether a tuple of tuples of tuples of integers is a closed lot."""
    if not value or tuple(sorted(set(value))) != value or not all(told in near for told in value):
        return False
    return all(other in value for told in value for other in near[told])
