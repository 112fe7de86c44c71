"""A plain judge of trees for the tests: trees, cuts and parts, by walking through everything.

Nothing of the package is used here.
"""

from itertools import combinations

from tests import judge


def within(land, lot):
    """The borders between places of a lot."""
    return [border for border in land[1] if border[0] in lot and border[1] in lot]


def trees(land, lot):
    """All trees of a lot, as tuples compare."""
    return [rows for rows in combinations(within(land, lot), len(lot) - 1) if judge.joined((land[0], rows), lot)]


def all_cuts(tree):
    """All cuts of a tree, as tuples compare."""
    return sorted(cuts for many in range(len(tree) + 1) for cuts in combinations(tree, many))


def parts(land, lot, tree, cuts):
    left = tuple(border for border in tree if border not in cuts)
    return judge.pieces((land[0], left), lot)


def least(land, lot, tree, cuts):
    """The folk of the part with the least."""
    return min(judge.folk_of(land, part) for part in parts(land, lot, tree, cuts))


def even_cuts(land, lot, tree, low, high):
    found = []
    for border in tree:
        folk = [judge.folk_of(land, part) for part in parts(land, lot, tree, (border,))]
        if all(low <= number <= high for number in folk):
            found.append(border)
    return tuple(found)


def most_parts(land, lot, tree, low):
    """(count, cuts), by walking through all cuts."""
    found = [(-len(cuts), cuts) for cuts in all_cuts(tree) if least(land, lot, tree, cuts) >= low]
    if not found:
        return (0, ())
    return (1 - min(found)[0], min(found)[1])


def fairest_parts(land, lot, tree, count):
    """(low, cuts), by walking through all cuts."""
    found = [(-least(land, lot, tree, cuts), cuts) for cuts in all_cuts(tree) if len(cuts) == count - 1]
    return (-min(found)[0], min(found)[1])


def parts_going_up(land, lot, tree, top, low):
    """How many parts are cut off, going up to the top, as soon as they have low; what is left joins the last one."""
    state = {"count": 0}

    def left_below(place, above):
        folk = land[0][place]
        for other in lot:
            if other != above and (min(place, other), max(place, other)) in tree:
                folk += left_below(other, place)
        if folk >= low:
            state["count"] += 1
            return 0
        return folk

    left_below(top, None)
    return state["count"]
