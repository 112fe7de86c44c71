"""Trees of a lot of places, counted and numbered, and what cuts of a tree leave."""

from wardsdrawn.errors import InvalidPart
from wardsdrawn.ground import check_bounds, check_count, check_land, check_lot, check_low, is_ascending, is_border
from wardsdrawn.ground import hangs_together, links_of, lot_of, mask_of, piece_masks
from wardsdrawn.lands import folk_within


def tree_count(land, lot):
    """How many trees a lot has."""
    check_land(land)
    check_lot(land, lot)
    return trees_with(land, lot, (), borders_within(land, lot))


def is_tree(land, lot, value):
    """Whether any value is a tree of a lot."""
    check_land(land)
    check_lot(land, lot)
    return is_tree_of(land, lot, value)


def nth_tree(land, lot, number):
    """The tree with the index number among all of a lot, as tuples compare."""
    check_land(land)
    check_lot(land, lot)
    borders = borders_within(land, lot)
    check_count(number, 0, trees_with(land, lot, (), borders) - 1)
    chosen = ()
    left = number
    for k in range(len(borders)):
        more = chosen + (borders[k],)
        many = trees_with(land, lot, more, borders[k + 1:])
        # Trees that have this border and the chosen ones stand ahead of those that go on with a later one.
        if left < many:
            chosen = more
        else:
            left -= many
    return chosen


def tree_number(land, lot, tree):
    """The index of a tree among all of a lot, as tuples compare."""
    check_land(land)
    check_lot(land, lot)
    check_tree(land, lot, tree)
    borders = borders_within(land, lot)
    chosen = ()
    number = 0
    for k in range(len(borders)):
        more = chosen + (borders[k],)
        if borders[k] in tree:
            chosen = more
        else:
            number += trees_with(land, lot, more, borders[k + 1:])
    return number


def parts(land, lot, tree, cuts):
    """The tuple of the parts that cuts of a tree leave, ascending by their first places."""
    check_land(land)
    check_lot(land, lot)
    check_tree(land, lot, tree)
    if not are_cuts(land, tree, cuts):
        raise InvalidPart("no cuts of the tree")
    return parts_left(land, lot, tree, cuts)


def even_cuts(land, lot, tree, low, high):
    """The lot of the borders of a tree each of which, cut alone, leaves two parts with folk from low to high."""
    check_land(land)
    check_lot(land, lot)
    check_tree(land, lot, tree)
    check_bounds(low, high)
    found = []
    for border in tree:
        folk = folk_left(land, lot, tree, (border,))
        if low <= min(folk) and max(folk) <= high:
            found.append(border)
    return tuple(found)


def most_parts(land, lot, tree, low):
    """(count, cuts): the most parts with folk of low at least, and the least cuts that leave as many."""
    check_land(land)
    check_lot(land, lot)
    check_tree(land, lot, tree)
    check_low(low)
    right = [cuts for cuts in all_cuts(tree) if min(folk_left(land, lot, tree, cuts)) >= low]
    if not right:
        return (0, ())
    most = max([len(cuts) for cuts in right])
    return (most + 1, min([cuts for cuts in right if len(cuts) == most]))


def fairest_parts(land, lot, tree, count):
    """(low, cuts): the most folk that the least of so many parts can have, and the least cuts that reach it."""
    check_land(land)
    check_lot(land, lot)
    check_tree(land, lot, tree)
    check_count(count, 1, len(lot))
    rows = [cuts for cuts in all_cuts(tree) if len(cuts) == count - 1]
    lows = {cuts: min(folk_left(land, lot, tree, cuts)) for cuts in rows}
    low = max([lows[cuts] for cuts in rows])
    return (low, min([cuts for cuts in rows if lows[cuts] == low]))


def check_tree(land, lot, tree):
    """InvalidPart unless any value is a tree of a lot."""
    if not is_tree_of(land, lot, tree):
        raise InvalidPart("no tree of the lot")


def is_tree_of(land, lot, value):
    """Whether any value is a tree of a lot; the land and the lot are right."""
    if type(value) != tuple or len(value) != len(lot) - 1:
        return False
    if not are_borders(land, borders_within(land, lot), value):
        return False
    # By one border less than there are places they hang together only without a ring.
    return hangs_together(links_by(land, value), mask_of(lot))


def are_cuts(land, tree, value):
    """Whether any value is cuts of a tree."""
    return type(value) == tuple and are_borders(land, tree, value)


def are_borders(land, borders, value):
    """Whether a tuple of any members is an ascending tuple of some of the borders of the land."""
    # A border with a truth in it equals one of integers, so kinds are judged first.
    if not all(is_border(border, len(land[0])) and border in borders for border in value):
        return False
    return is_ascending(value)


def borders_within(land, lot):
    """The tuple of the borders of the land between places of a lot."""
    return tuple((low, high) for low, high in land[1] if low in lot and high in lot)


def links_by(land, borders):
    """The links that the places of the land have by some of its borders alone."""
    return links_of((land[0], borders))


def trees_with(land, lot, chosen, rest):
    """How many trees of a lot have all chosen borders, and besides them none but borders of the rest."""
    groups = piece_masks(links_by(land, chosen), mask_of(lot))
    if len(groups) + len(chosen) != len(lot):
        # A ring is among the chosen ones.
        return 0
    return determinant(laplacian(groups, rest))


def laplacian(groups, borders):
    """The matrix whose determinant counts the trees that borders make of groups of places, told as masks.

    The last group has no row and no column, as Kirchhoff's theorem asks for.
    """
    where = {place: k for k in range(len(groups)) for place in lot_of(groups[k])}
    rows = [[0] * len(groups) for _ in groups]
    for low, high in borders:
        one, other = where[low], where[high]
        if one != other:
            rows[one][one] += 1
            rows[other][other] += 1
            rows[one][other] -= 1
            rows[other][one] -= 1
    return [row[:-1] for row in rows[:-1]]


def determinant(matrix):
    """The determinant of a matrix as laplacian tells it, by integers alone; 1 of one without rows."""
    rows = [list(row) for row in matrix]
    last = 1
    for k in range(len(rows)):
        pivot = rows[k][k]
        if pivot == 0:
            # Some groups have no border out of them, so there is no tree.
            return 0
        for low in range(k + 1, len(rows)):
            for right in range(k + 1, len(rows)):
                # Bareiss: the pivot ahead of this one divides without a rest.
                rows[low][right] = (rows[low][right] * pivot - rows[low][k] * rows[k][right]) // last
        last = pivot
    return last


def parts_left(land, lot, tree, cuts):
    """The tuple of the parts that cuts of a tree leave; all are right."""
    left = tuple(border for border in tree if border not in cuts)
    return tuple(lot_of(part) for part in piece_masks(links_by(land, left), mask_of(lot)))


def folk_left(land, lot, tree, cuts):
    """The list of the folk of the parts that cuts of a tree leave."""
    return [folk_within(land, part) for part in parts_left(land, lot, tree, cuts)]


def all_cuts(tree):
    """The list of all cuts of a tree."""
    found = [()]
    for border in tree:
        found = found + [cuts + (border,) for cuts in found]
    return found
