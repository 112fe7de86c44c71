"""A plain judge of walks for the tests: each pair, each tree, each border, each draw is walked through.

Nothing of the package is used here; chances are Fractions.
"""

from fractions import Fraction
from itertools import combinations

from tests import judge, judge_exchanges, judge_trees


def told(chance):
    """The fraction of the document that a Fraction is."""
    return (chance.numerator, chance.denominator)


def told_row(chances):
    return tuple(sorted((plan, told(chance)) for plan, chance in chances.items() if chance > 0))


def is_fit(land, wards, low, high):
    return all(low <= judge.folk_of(land, ward) <= high for ward in wards)


def borders_between(land, one, other):
    return len([pair for pair in land[1] if len({*pair} & {*one}) == 1 and len({*pair} & {*other}) == 1])


def without_wards(plan, one, other):
    return [ward for k, ward in enumerate(plan) if k not in (one, other)]


def tree_step(land, plan, low, high):
    """The dict of the chances of a step of the tree walk."""
    found = {plan: Fraction(0)}
    pairs = list(combinations(range(len(plan)), 2))
    if not pairs:
        found[plan] = Fraction(1)
    for one, other in pairs:
        drawn = Fraction(1, len(pairs))
        if borders_between(land, plan[one], plan[other]) == 0:
            found[plan] += drawn
            continue
        both = tuple(sorted(plan[one] + plan[other]))
        trees = judge_trees.trees(land, both)
        for tree in trees:
            for border in tree:
                sides = judge_trees.parts(land, both, tree, (border,))
                here = drawn / len(trees) / len(tree)
                if not is_fit(land, sides, low, high):
                    found[plan] += here
                    continue
                taken = here / borders_between(land, *sides)
                new = tuple(sorted([*without_wards(plan, one, other), *sides]))
                found[new] = found.get(new, 0) + taken
                found[plan] += here - taken
    return {told: chance for told, chance in found.items() if chance > 0}


def tree_share(land, plan, low, high):
    """The share of a plan, a Fraction."""
    found = [told for told in judge_exchanges.fitting(land, low, high) if len(told) == len(plan)]
    return Fraction(products(land, plan), sum(products(land, told) for told in found))


def products(land, plan):
    many = 1
    for ward in plan:
        many *= len(judge_trees.trees(land, ward))
    return many


def walked(steps_of, plan, steps):
    """The dict of the chances behind so many steps of a walk; steps_of(plan) tells those of one step."""
    here = {plan: Fraction(1)}
    for _ in range(steps):
        found = {}
        for told, chance in here.items():
            for other, part in steps_of(told).items():
                found[other] = found.get(other, 0) + chance * part
        here = found
    return here


def wandered(land, plan, low, high, tape):
    row = [plan]
    for p, t, e, a in tape:
        plan = step_told(land, plan, low, high, p, t, e, a)
        row.append(plan)
    return tuple(row)


def step_told(land, plan, low, high, p, t, e, a):
    pairs = sorted(combinations(range(len(plan)), 2))
    if not pairs:
        return plan
    one, other = pairs[p % len(pairs)]
    if borders_between(land, plan[one], plan[other]) == 0:
        return plan
    both = tuple(sorted(plan[one] + plan[other]))
    trees = sorted(judge_trees.trees(land, both))
    tree = trees[t % len(trees)]
    sides = judge_trees.parts(land, both, tree, (sorted(tree)[e % len(tree)],))
    if not is_fit(land, sides, low, high) or a % borders_between(land, *sides) != 0:
        return plan
    return tuple(sorted([*without_wards(plan, one, other), *sides]))


def exchange_step(land, plan, low, high):
    """The dict of the chances of a step of the exchange walk: all pairs of a place and a ward not its own."""
    draws = [(place, ward) for place in judge.places_of(land) for ward in plan if place not in ward]
    found = {}
    for place, ward in draws:
        new = exchanged(land, plan, place, ward)
        if new is None or not is_fit(land, new, low, high):
            new = plan
        found[new] = found.get(new, 0) + Fraction(1, len(draws))
    return found


def exchanged(land, plan, place, ward):
    """The plan in which a place has gone to a ward by an exchange, or None."""
    own = next(told for told in plan if place in told)
    left = judge.without(own, place)
    if not left or not judge.joined(land, left):
        return None
    if not any(judge.linked(land, place, there) for there in ward):
        return None
    rest = [told for told in plan if told not in (own, ward)]
    return tuple(sorted([*rest, left, tuple(sorted(ward + (place,)))]))


def label(land, plan, weights):
    total = 0
    for weight, (low, high) in zip(weights, land[1], strict=True):
        if not any(low in ward and high in ward for ward in plan):
            total += weight
    return total


def is_strange(labels, level):
    return len([told for told in labels if told <= labels[0]]) <= Fraction(*level) * len(labels)


def strange_chance(steps_of, label_of, plan, steps, level):
    """The chance of a strange row, by walking through all rows of plans."""
    rows = {(plan,): Fraction(1)}
    for _ in range(steps):
        longer = {}
        for row, chance in rows.items():
            for other, part in steps_of(row[-1]).items():
                longer[row + (other,)] = chance * part
        rows = longer
    return sum((chance for row, chance in rows.items() if is_strange([label_of(told) for told in row], level)),
               Fraction(0))
