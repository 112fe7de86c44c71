"""A plain judge for the tests: what the document tells, by walking through everything.

Nothing of the package is used here, and no mask: lots are tuples and sets of places.
"""

from itertools import combinations, permutations


def places_of(land):
    return tuple(range(len(land[0])))


def heads_of(land):
    """All pairs of two unlike places."""
    return list(permutations(places_of(land), 2))


def linked(land, one, other):
    return (min(one, other), max(one, other)) in land[1]


def come_to(land, start, lot):
    """The set of the places of a lot that one of them leads to within the lot."""
    seen = {start}
    waiting = [start]
    while waiting:
        here = waiting.pop()
        for place in lot:
            if place not in seen and linked(land, here, place):
                seen.add(place)
                waiting.append(place)
    return seen


def joined(land, lot):
    return len(lot) == 0 or come_to(land, lot[0], lot) == set(lot)


def lots_within(lot):
    """All lots of one or more places of a lot, ascending."""
    return sorted(part for many in range(1, len(lot) + 1) for part in combinations(lot, many))


def without(lot, place):
    return tuple(other for other in lot if other != place)


def pieces(land, lot):
    return tuple(sorted({tuple(sorted(come_to(land, place, lot))) for place in lot}))


def cut_places(land, lot):
    many = len(pieces(land, lot))
    return tuple(place for place in lot if len(pieces(land, without(lot, place))) > many)


def partitions(many):
    """All ways to part so many places into lots, each an ascending tuple of lots."""
    if many == 0:
        return [()]
    found = []
    for rows in partitions(many - 1):
        found.append(rows + ((many - 1,),))
        for k in range(len(rows)):
            found.append(rows[:k] + (rows[k] + (many - 1,),) + rows[k + 1:])
    return [tuple(sorted(rows)) for rows in found]


def plans(land):
    return sorted(rows for rows in partitions(len(land[0])) if all(joined(land, ward) for ward in rows))


def lands(folk):
    """All lands with this folk."""
    pairs = list(combinations(range(len(folk)), 2))
    return [(folk, tuple(borders)) for many in range(len(pairs) + 1) for borders in combinations(pairs, many)]


def is_order(land, head, other_head, row):
    """Whether a tuple of all places, each once, is an order."""
    if row[0] != head or row[-1] != other_head:
        return False
    for k in range(1, len(row) - 1):
        if not any(linked(land, row[k], place) for place in row[:k]):
            return False
        if not any(linked(land, row[k], place) for place in row[k + 1:]):
            return False
    return True


def orders(land, head, other_head):
    """All orders, as tuples compare."""
    middle = without(without(places_of(land), head), other_head)
    rows = [(head, *row, other_head) for row in permutations(middle)]
    return [row for row in rows if is_order(land, head, other_head, row)]


def is_shut(land, head, other_head, cut, lot):
    if head in lot or other_head in lot or cut in lot:
        return False
    for place in lot:
        for other in places_of(land):
            if linked(land, place, other) and other not in lot and other != cut:
                return False
    return True


def with_border(land, one, other):
    """The land with the border of two places put in."""
    return (land[0], tuple(sorted({*land[1], (min(one, other), max(one, other))})))


def told_shut(land, head, other_head):
    """(cut, lot) as ordered tells it of a land without an order."""
    put_in = with_border(land, head, other_head)
    every = places_of(land)
    if not joined(put_in, every):
        return (None, min(lot for lot in pieces(put_in, every) if head not in lot and other_head not in lot))
    for cut in every:
        lone = [lot for lot in pieces(put_in, without(every, cut)) if head not in lot and other_head not in lot]
        if lone:
            return (cut, min(lone))
    return None


def ordered(land, head, other_head):
    found = orders(land, head, other_head)
    if found:
        return ("yes", min(found))
    return ("no", *told_shut(land, head, other_head))


def partings(land, head, other_head):
    """All partings by two heads, by their wards as tuples compare."""
    every = places_of(land)
    found = []
    for ward in lots_within(every):
        other = tuple(place for place in every if place not in ward)
        if head in ward and other_head in other and joined(land, ward) and joined(land, other):
            found.append((ward, other))
    return found


def folk_of(land, lot):
    return sum(land[0][place] for place in lot)


def fairest(land, head, other_head):
    found = [(abs(folk_of(land, ward) - folk_of(land, other)), ward, other)
             for ward, other in partings(land, head, other_head)]
    return min(found) if found else None
