"""Exchanges of a place between two wards of a plan, and the closed lots of plans that they lead through.

A division is a plan told by masks: the ascending tuple of the masks of its wards.
Good wards are a list that tells, by the mask of a lot, whether it hangs together and has folk within the bounds.
"""

from wardsdrawn.errors import Refused, TooMany
from wardsdrawn.ground import check_bounds, check_count, check_land, check_plan
from wardsdrawn.ground import fault_of_plan, hangs_together, is_ascending, links_of, lot_of, mask_of, whole_mask
from wardsdrawn.lands import folk_within

MOST_PLANS = 2000
MOST_PLACES_OF_LOTS = 9


def fits(land, plan, low, high):
    """Whether the folk of each ward of a plan is from low to high."""
    check_land(land)
    check_plan(land, plan)
    check_bounds(low, high)
    return is_fit(land, plan, low, high)


def near(land, plan, low, high):
    """The lot of the plans that fit and are one exchange apart from a plan."""
    check_land(land)
    check_plan(land, plan)
    check_bounds(low, high)
    good = good_wards(land, low, high)
    found = exchanged(good, division_of(plan))
    # The plan itself need not fit, so a ward that gives and takes nothing may be no good one.
    return lot_of_plans([division for division in found if all(good[ward] for ward in division)])


def closed_lot(land, plan, low, high):
    """The least closed lot that has a plan."""
    check_land(land)
    check_plan(land, plan)
    check_bounds(low, high)
    check_fit(land, plan, low, high)
    return lot_of_plans(list(steps_from(good_wards(land, low, high), division_of(plan), MOST_PLANS)))


def led(land, plan, other_plan, low, high):
    """("yes", the least of the shortest rows from a plan to the other), or ("no", the closed lot of the plan)."""
    check_land(land)
    check_plan(land, plan)
    check_plan(land, other_plan)
    check_bounds(low, high)
    check_fit(land, plan, low, high)
    check_fit(land, other_plan, low, high)
    good = good_wards(land, low, high)
    here, there = division_of(plan), division_of(other_plan)
    found = steps_from(good, here, MOST_PLANS)
    if there not in found:
        return ("no", lot_of_plans(list(found)))
    # Exchanges lead back, too: so the steps to the other plan are those from it.
    return ("yes", least_row(good, here, steps_from(good, there, MOST_PLANS)))


def is_row(land, plan, other_plan, low, high, value):
    """Whether any value is a row of plans that fit, by exchanges from a plan to the other."""
    check_land(land)
    check_plan(land, plan)
    check_plan(land, other_plan)
    check_bounds(low, high)
    if not are_fit_plans(land, low, high, value) or value[0] != plan or value[-1] != other_plan:
        return False
    good = good_wards(land, low, high)
    row = [division_of(told) for told in value]
    return all(row[k + 1] in exchanged(good, row[k]) for k in range(len(row) - 1))


def is_closed(land, low, high, value):
    """Whether any value is a closed lot of plans, of whatever numbers of wards."""
    check_land(land)
    check_bounds(low, high)
    if not are_fit_plans(land, low, high, value) or not is_ascending(value):
        return False
    good = good_wards(land, low, high)
    known = {division_of(told): True for told in value}
    return all(other in known for division in list(known) for other in exchanged(good, division))


def closed_lots(land, count, low, high):
    """The ascending tuple of the closed lots of all plans of count wards that fit."""
    check_land(land)
    check_count(count, 1, len(land[0]))
    check_bounds(low, high)
    if len(land[0]) > MOST_PLACES_OF_LOTS:
        raise TooMany(len(land[0]))
    good = good_wards(land, low, high)
    found = divisions_of(good, whole_mask(land), count)
    if len(found) > MOST_PLANS:
        raise TooMany(MOST_PLANS)
    known = {}
    lots = []
    for division in found:
        if division not in known:
            together = list(steps_from(good, division, MOST_PLANS))
            lots.append(lot_of_plans(together))
            for other in together:
                known[other] = True
    return tuple(sorted(lots))


def check_fit(land, plan, low, high):
    """Refused unless a plan fits."""
    if not is_fit(land, plan, low, high):
        raise Refused("the plan does not fit the bounds")


def is_fit(land, plan, low, high):
    """Whether a plan fits; all arguments are right."""
    return all(low <= folk_within(land, ward) <= high for ward in plan)


def are_fit_plans(land, low, high, value):
    """Whether any value is a tuple of plans that fit, one at least."""
    if type(value) != tuple or len(value) == 0:
        return False
    return all(fault_of_plan(land, told) is None and is_fit(land, told, low, high) for told in value)


def good_wards(land, low, high):
    """The good wards of the land by the bounds."""
    links = links_of(land)
    # No ward has no place; the sum of no folk would be within bounds from 0 on.
    good = [False]
    for mask in range(1, whole_mask(land) + 1):
        good.append(low <= folk_within(land, lot_of(mask)) <= high and hangs_together(links, mask))
    return good


def division_of(plan):
    """The division that a plan is told by."""
    return tuple(sorted([mask_of(ward) for ward in plan]))


def plan_by(division):
    """The plan that a division tells."""
    return tuple(sorted([lot_of(ward) for ward in division]))


def lot_of_plans(divisions):
    """The ascending tuple of the plans that unlike divisions tell."""
    return tuple(sorted([plan_by(division) for division in divisions]))


def exchanged(good, division):
    """The list of the divisions that come by one exchange, the two wards that change being good ones behind it."""
    found = []
    for ward in division:
        loose = [1 << place for place in lot_of(ward) if good[ward ^ (1 << place)]]
        for bit in loose:
            for other in division:
                # The other ward hangs together with one more place exactly if it has a neighbour of that.
                if other != ward and good[other | bit]:
                    found.append(with_exchange(division, ward, other, bit))
    return found


def with_exchange(division, ward, other, bit):
    """The division in which the place of a bit has gone from a ward to the other one."""
    left = [mask for mask in division if mask != ward and mask != other]
    return tuple(sorted(left + [ward ^ bit, other | bit]))


def steps_from(good, start, most):
    """The dict that gives for each division of the closed lot of a start how many exchanges it is away.

    TooMany if there are more than most of them.
    """
    steps = {start: 0}
    waiting = [start]
    while waiting:
        fresh = []
        for division in waiting:
            for other in exchanged(good, division):
                if other not in steps:
                    steps[other] = steps[division] + 1
                    fresh.append(other)
            if len(steps) > most:
                raise TooMany(most)
        waiting = fresh
    return steps


def least_row(good, start, steps):
    """The least of the shortest rows of plans from a start to where steps are 0."""
    here = start
    row = [plan_by(here)]
    while steps[here] > 0:
        closer = [other for other in exchanged(good, here) if steps[other] < steps[here]]
        here = min(closer, key=plan_by)
        row.append(plan_by(here))
    return tuple(row)


def divisions_of(good, mask, count):
    """The list of all divisions of the places of a mask, one at least, into count good wards, one at least."""
    if count == 1:
        return [(mask,)] if good[mask] else []
    # The ward of the least place comes first, so each division comes but once.
    least = mask & -mask
    found = []
    for others in masks_within(mask ^ least):
        ward = mask ^ others
        if others and good[ward]:
            for division in divisions_of(good, others, count - 1):
                found.append(tuple(sorted(division + (ward,))))
    return found


def masks_within(mask):
    """The list of all masks within a mask."""
    found = [0]
    for place in lot_of(mask):
        found = found + [other | (1 << place) for other in found]
    return found
