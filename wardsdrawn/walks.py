"""The tree walk of plans: two wards are joined, a tree of both is drawn, and one of its borders is cut.

Divisions and good wards are told by masks, as in exchanges; trees are a list that tells, by the mask of a lot,
how many trees it has.
"""

from math import gcd, lcm

from wardsdrawn.errors import InvalidPart, Refused, TooMany
from wardsdrawn.exchanges import check_fit, division_of, divisions_of, good_wards, is_fit, masks_within, plan_by
from wardsdrawn.ground import check_bounds, check_count, check_land, check_plan, fraction, lot_of, whole_mask
from wardsdrawn.spans import borders_within, nth_tree, parts, tree_count, trees_with

MOST_PLACES_OF_WALKS = 9
MOST_STEPS = 6
MOST_PLANS_BEHIND = 400
MOST_STEPS_OF_TAPE = 200


def chance(land, plan, other_plan, low, high):
    """The chance that a step of the tree walk leads from a plan to the other."""
    check_land(land)
    check_plan(land, plan)
    check_plan(land, other_plan)
    check_bounds(low, high)
    check_walk(land, plan, low, high)
    check_walk(land, other_plan, low, high)
    row = steps_of(good_wards(land, low, high), trees_of(land), division_of(plan))
    return row.get(division_of(other_plan), (0, 1))


def nexts(land, plan, low, high):
    """The ascending tuple of (plan, chance) of all plans to which a step leads from a plan."""
    check_land(land)
    check_plan(land, plan)
    check_bounds(low, high)
    check_walk(land, plan, low, high)
    return told_chances(steps_of(good_wards(land, low, high), trees_of(land), division_of(plan)))


def share(land, plan, low, high):
    """The share of a plan among all that fit and have as many wards, by the products of numbers of trees."""
    check_land(land)
    check_plan(land, plan)
    check_bounds(low, high)
    check_walk(land, plan, low, high)
    trees = trees_of(land)
    found = divisions_of(good_wards(land, low, high), whole_mask(land), len(plan))
    return fraction(trees_within(trees, division_of(plan)), sum([trees_within(trees, other) for other in found]))


def behind(land, plan, low, high, steps):
    """The ascending tuple of (plan, chance) of all plans at which the walk can be behind so many steps."""
    check_land(land)
    check_plan(land, plan)
    check_bounds(low, high)
    check_count(steps, 0, MOST_STEPS)
    check_walk(land, plan, low, high)
    good, trees = good_wards(land, low, high), trees_of(land)
    rows = {}
    tops, bottom = {division_of(plan): 1}, 1
    for _ in range(steps):
        for division in tops:
            if division not in rows:
                rows[division] = steps_of(good, trees, division)
        tops, bottom = stepped(rows, tops, bottom)
    return told_chances({division: fraction(tops[division], bottom) for division in tops})


def wandered(land, plan, low, high, tape):
    """The tuple of a plan and the plans behind each step that a tape tells."""
    check_land(land)
    check_plan(land, plan)
    check_bounds(low, high)
    check_tape(tape)
    check_walk(land, plan, low, high)
    row = [plan]
    for numbers in tape:
        row.append(plan_behind(land, row[-1], low, high, numbers))
    return tuple(row)


def check_walk(land, plan, low, high):
    """Refused if the land has more places than the walk is told of, or if a plan does not fit."""
    if len(land[0]) > MOST_PLACES_OF_WALKS:
        raise Refused("the land has too many places")
    check_fit(land, plan, low, high)


def check_tape(tape):
    """InvalidPart unless any value is a tape."""
    if type(tape) != tuple or len(tape) > MOST_STEPS_OF_TAPE:
        raise InvalidPart("no tuple of so few steps")
    if not all(is_step(numbers) for numbers in tape):
        raise InvalidPart("a step is no tuple of four integers from 0 on")


def is_step(value):
    """Whether any value is what a tape tells of a step."""
    if type(value) != tuple or len(value) != 4:
        return False
    return all(type(number) == int and number >= 0 for number in value)


def trees_of(land):
    """The list that tells, by the mask of a lot, how many trees it has."""
    # No lot has no place, so the first one is never read.
    trees = [0]
    for mask in range(1, whole_mask(land) + 1):
        lot = lot_of(mask)
        trees.append(trees_with(land, lot, (), borders_within(land, lot)))
    return trees


def trees_within(trees, division):
    """The product of the numbers of trees of the wards of a division."""
    many = 1
    for ward in division:
        many *= trees[ward]
    return many


def steps_of(good, trees, division):
    """The dict that gives for each division to which a step leads from a division the chance, above 0.

    Of all trees of two wards together, each with one of its borders, as many fall into two sides as there are
    trees of the one, trees of the other, and borders between both to choose from. The sides are taken with the
    chance 1 by the number of these borders, so that this number does not matter.
    """
    pairs = pairs_of(len(division))
    found = {}
    stays = (1, 1)
    for one, other in pairs:
        both = division[one] | division[other]
        left = [division[k] for k in range(len(division)) if k != one and k != other]
        ways = len(pairs) * trees[both] * (len(lot_of(both)) - 1)
        for ward, rest in sides_of(good, both):
            # Wards without a border between them have no tree together, and fall into no sides but themselves.
            if ward != division[one] and ward != division[other]:
                step = fraction(trees[ward] * trees[rest], ways)
                found[tuple(sorted(left + [ward, rest]))] = step
                stays = less(stays, step)
    # Two wards with a border between them may come as they were, so this chance is above 0, too.
    found[division] = stays
    return found


def sides_of(good, mask):
    """The list of the pairs of masks of good wards that a mask falls into, the one with its least place ahead."""
    least = mask & -mask
    found = []
    for rest in masks_within(mask ^ least):
        if good[rest] and good[mask ^ rest]:
            found.append((mask ^ rest, rest))
    return found


def less(one, other):
    """The fraction that is left of one behind the other."""
    return fraction(one[0] * other[1] - other[0] * one[1], one[1] * other[1])


def stepped(rows, tops, bottom):
    """The dict of tops, and their one bottom, of the chances behind one step more; rows tell the step's chances.

    TooMany if there are too many of them.
    """
    whole = 1
    for division in tops:
        for step in rows[division].values():
            whole = lcm(whole, step[1])
    found = {}
    for division in tops:
        for other, step in rows[division].items():
            found[other] = found.get(other, 0) + tops[division] * step[0] * (whole // step[1])
        if len(found) > MOST_PLANS_BEHIND:
            raise TooMany(MOST_PLANS_BEHIND)
    bottom = bottom * whole
    common = bottom
    for top in found.values():
        common = gcd(common, top)
    return {other: found[other] // common for other in found}, bottom // common


def told_chances(chances):
    """The ascending tuple of (plan, chance) that a dict of chances by divisions tells."""
    return tuple(sorted([(plan_by(division), chances[division]) for division in chances]))


def pairs_of(many):
    """The list of the pairs of so many indexes, the lesser one ahead, ascending."""
    return [(one, other) for one in range(many) for other in range(one + 1, many)]


def plan_behind(land, plan, low, high, numbers):
    """The plan behind the step from a plan that the four numbers of a tape tell."""
    pair, tree, border, taken = numbers
    pairs = pairs_of(len(plan))
    if not pairs:
        return plan
    one, other = pairs[pair % len(pairs)]
    both = tuple(sorted(plan[one] + plan[other]))
    many = tree_count(land, both)
    if many == 0:
        # No border is between both wards.
        return plan
    drawn = nth_tree(land, both, tree % many)
    sides = parts(land, both, drawn, (drawn[border % len(drawn)],))
    left = tuple(plan[k] for k in range(len(plan)) if k != one and k != other)
    if not is_fit(land, sides, low, high) or taken % borders_across(land, sides) != 0:
        return plan
    return tuple(sorted(left + sides))


def borders_across(land, sides):
    """How many borders of the land there are between two lots."""
    one, other = sides
    return len([pair for pair in land[1] if (pair[0] in one and pair[1] in other)
                or (pair[0] in other and pair[1] in one)])
