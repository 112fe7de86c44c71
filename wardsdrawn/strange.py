"""The exchange walk of plans, and rows of labels that are strange: hardly one is as low as the first."""

from math import gcd

from wardsdrawn.errors import InvalidPart, Refused
from wardsdrawn.exchanges import check_fit, division_of, exchanged, good_wards, plan_by, steps_from
from wardsdrawn.ground import check_bounds, check_count, check_land, check_plan, fraction, is_integer
from wardsdrawn.lands import borders_between, ward_row

MOST_WEIGHT = 1000
MOST_LABELS = 200
MOST_PLANS_OF_LOT = 200
MOST_STEPS = 12


def label(land, plan, weights):
    """The sum of the weights of the borders that a plan cuts."""
    check_land(land)
    check_plan(land, plan)
    check_weights(land, weights)
    return label_of(land, plan, weights)


def is_strange(labels, level):
    """Whether a row of labels is strange at a level."""
    check_labels(labels)
    check_level(level)
    low = [told for told in labels if told <= labels[0]]
    return len(low) <= most_low(len(labels), level)


def chances(land, plan, low, high, steps):
    """The ascending tuple of (plan, chance) of all plans at which the walk can be behind exactly so many steps."""
    check_land(land)
    check_plan(land, plan)
    check_bounds(low, high)
    check_count(steps, 0, MOST_STEPS)
    check_walk(land, plan, low, high)
    lot, moves = walk_from(land, plan, low, high)
    draws = draws_of(land, plan)
    ways = [0] * len(lot)
    ways[0] = 1
    for _ in range(steps):
        ways = stepped(moves, draws, ways)
    # A step leads to a plan with the same chance as back, so the ways from all plans to it are those from it.
    total = product_of(draws, steps)
    return tuple(sorted([(lot[k], fraction(ways[k], total)) for k in range(len(lot)) if ways[k] > 0]))


def strange_chance(land, plan, low, high, weights, steps, level):
    """The chance that the labels of a plan and of the plans behind each of so many steps are strange."""
    check_land(land)
    check_plan(land, plan)
    check_bounds(low, high)
    check_weights(land, weights)
    check_count(steps, 0, MOST_STEPS)
    check_level(level)
    check_walk(land, plan, low, high)
    lot, moves = walk_from(land, plan, low, high)
    draws = draws_of(land, plan)
    labels = [label_of(land, told, weights) for told in lot]
    ways = strange_ways(moves, draws, labels, labels[0], steps, most_low(steps + 1, level))
    return fraction(ways[0], product_of(draws, steps))


def strange_share(land, plan, low, high, weights, steps, level):
    """The mean of strange_chance over all plans of the closed lot of a plan."""
    check_land(land)
    check_plan(land, plan)
    check_bounds(low, high)
    check_weights(land, weights)
    check_count(steps, 0, MOST_STEPS)
    check_level(level)
    check_walk(land, plan, low, high)
    lot, moves = walk_from(land, plan, low, high)
    draws = draws_of(land, plan)
    labels = [label_of(land, told, weights) for told in lot]
    found = 0
    for first in sorted(set(labels)):
        ways = strange_ways(moves, draws, labels, first, steps, most_low(steps + 1, level))
        found += sum([ways[k] for k in range(len(lot)) if labels[k] == first])
    return fraction(found, len(lot) * product_of(draws, steps))


def check_weights(land, weights):
    """InvalidPart unless any value is a tuple of a weight for each border."""
    if type(weights) != tuple or len(weights) != len(land[1]):
        raise InvalidPart("no tuple with as many members as there are borders")
    if not all(is_integer(weight, -MOST_WEIGHT, MOST_WEIGHT) for weight in weights):
        raise InvalidPart("not all members are weights")


def check_labels(labels):
    """InvalidPart unless any value is a row of labels."""
    if type(labels) != tuple or not 1 <= len(labels) <= MOST_LABELS:
        raise InvalidPart("no tuple of so many labels")
    if not all(type(told) == int for told in labels):
        raise InvalidPart("not all labels are integers")


def check_level(level):
    """InvalidPart unless any value is a level."""
    if type(level) != tuple or len(level) != 2 or not all(type(number) == int for number in level):
        raise InvalidPart("no pair of integers")
    top, bottom = level
    if not 0 < top <= bottom or gcd(top, bottom) != 1:
        raise InvalidPart("no fraction above 0, not above 1")


def check_walk(land, plan, low, high):
    """Refused of a plan of one ward, or that does not fit."""
    if len(plan) == 1:
        raise Refused("the plan has one ward alone")
    check_fit(land, plan, low, high)


def label_of(land, plan, weights):
    """The label of a plan; all arguments are right."""
    cut = borders_between(land, ward_row(plan))
    return sum([weights[k] for k in range(len(weights)) if land[1][k] in cut])


def most_low(many, level):
    """How many of so many labels may be as low as the first one, at most, in a strange row."""
    return many * level[0] // level[1]


def walk_from(land, plan, low, high):
    """(lot, moves): the list of the plans of a closed lot, this one first, and for each the indexes it can go to.

    TooMany if there are too many of them.
    """
    good = good_wards(land, low, high)
    found = list(steps_from(good, division_of(plan), MOST_PLANS_OF_LOT))
    where = {found[k]: k for k in range(len(found))}
    moves = [[where[other] for other in exchanged(good, division)] for division in found]
    return [plan_by(division) for division in found], moves


def draws_of(land, plan):
    """How many pairs of a place and a ward that is not its own there are."""
    return len(land[0]) * (len(plan) - 1)


def product_of(draws, steps):
    """How many ways to draw there are in so many steps."""
    total = 1
    for _ in range(steps):
        total *= draws
    return total


def stepped(moves, draws, ways):
    """For each plan the sum of the ways of the plans to which the draws of one step lead from it."""
    found = []
    for k in range(len(moves)):
        stays = draws - len(moves[k])
        found.append(stays * ways[k] + sum([ways[other] for other in moves[k]]))
    return found


def strange_ways(moves, draws, labels, first, steps, most):
    """For each plan in how many ways so many steps from it meet, it counted, most labels at most not above first.

    The numbers of ways, by how many such labels they meet, stand side by side in one integer, each in a field of
    its own that is wide enough for all ways together: so they are added all at once.
    """
    wide = product_of(draws, steps).bit_length()
    shifts = [wide if told <= first else 0 for told in labels]
    ways = [1 << shift for shift in shifts]
    for _ in range(steps):
        ways = stepped(moves, draws, ways)
        ways = [ways[k] << shifts[k] for k in range(len(ways))]
    return [sum_of_fields(number, wide, most) for number in ways]


def sum_of_fields(number, wide, last):
    """The sum of the fields of an integer, each so wide, up to the last one."""
    total = 0
    for k in range(last + 1):
        total += (number >> (k * wide)) & ((1 << wide) - 1)
    return total
