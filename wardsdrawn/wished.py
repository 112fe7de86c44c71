"""Wished plans: a ward for each head, of the size that is asked for it, or the cases that bar them.

A state is a tuple with, for each head, the mask of the places that are its own.
"""

from wardsdrawn.errors import InvalidPart
from wardsdrawn.ground import check_land, is_integer, is_lot, is_place
from wardsdrawn.ground import hangs_together, links_of, lot_of, mask_of, reached

FEWEST_HEADS = 2
MOST_HEADS = 4


def wished(land, heads, sizes):
    """("yes", a serving), or ("no", cases of the state that gives just the heads) if there is none."""
    check_wish(land, heads, sizes)
    return answer_of(links_of(land), heads, sizes, first_state(heads))


def is_serving(land, heads, sizes, value):
    """Whether any value is a serving."""
    check_wish(land, heads, sizes)
    if type(value) != tuple or len(value) != len(heads):
        return False
    links = links_of(land)
    taken = 0
    for k in range(len(heads)):
        if not is_lot(land, value[k]) or not is_ward(links, value[k], heads[k], sizes[k]):
            return False
        ward = mask_of(value[k])
        if ward & taken:
            return False
        taken |= ward
    # The sizes come to as many as there are places: so none is left out.
    return True


def are_cases(land, heads, sizes, value):
    """Whether any value is cases of the state that gives just the heads."""
    check_wish(land, heads, sizes)
    return are_cases_of(links_of(land), heads, sizes, first_state(heads), value)


def check_wish(land, heads, sizes):
    """InvalidLand, then InvalidPart, unless any values are a land, heads of it, and sizes for them."""
    check_land(land)
    if not are_heads(land, heads):
        raise InvalidPart("no tuple of two to four unlike places of the land")
    if not are_sizes(land, heads, sizes):
        raise InvalidPart("no tuple of a size for each head that come to the number of places")


def are_heads(land, value):
    """Whether any value is heads of the land."""
    if type(value) != tuple or not FEWEST_HEADS <= len(value) <= MOST_HEADS:
        return False
    return all(is_place(land, place) for place in value) and len(set(value)) == len(value)


def are_sizes(land, heads, value):
    """Whether any value is sizes for the heads."""
    if type(value) != tuple or len(value) != len(heads):
        return False
    many = len(land[0])
    return all(is_integer(size, 1, many) for size in value) and sum(value) == many


def is_ward(links, lot, head, size):
    """Whether a lot of the land has the head and the size, and hangs together."""
    return head in lot and len(lot) == size and hangs_together(links, mask_of(lot))


def first_state(heads):
    """The state that gives just the heads, each to itself."""
    return tuple(1 << head for head in heads)


def given(state, k, place):
    """The state in which a place that was nobody's is the k-th head's own, too."""
    return state[:k] + (state[k] | (1 << place),) + state[k + 1:]


def free_of(links, state):
    """The mask of the places that are nobody's."""
    return ((1 << len(links)) - 1) ^ sum(state)


def come_to(links, heads, state, k):
    """The mask of the places to which the k-th head can come."""
    return reached(links, 1 << heads[k], state[k] | free_of(links, state))


def count_of(mask):
    """How many places a mask has."""
    return len(lot_of(mask))


def is_over(sizes, state, k):
    """Whether ("over", k) is cases of the state."""
    return count_of(state[k]) > sizes[k]


def is_shut_in(sizes, state, k, come):
    """Whether ("shut", k) is cases of the state, in which the k-th head can come to the places of the mask come."""
    return count_of(come) < sizes[k] or state[k] & come != state[k]


def is_lost(links, heads, state, place):
    """Whether ("lost", place) is cases of the state."""
    if not has_place(free_of(links, state), place):
        return False
    return not any(has_place(come_to(links, heads, state, k), place) for k in range(len(heads)))


def has_place(mask, place):
    """Whether a mask has a place."""
    return (mask >> place) & 1 == 1


def are_cases_of(links, heads, sizes, state, value):
    """Whether any value is cases of the state."""
    if type(value) != tuple or len(value) < 2:
        return False
    word, at = value[0], value[1]
    if type(word) != str:
        return False
    if word == "split":
        return is_split(links, heads, sizes, state, value)
    if len(value) != 2:
        return False
    if word == "lost":
        return is_integer(at, 0, len(links) - 1) and is_lost(links, heads, state, at)
    if not is_integer(at, 0, len(heads) - 1):
        return False
    if word == "over":
        return is_over(sizes, state, at)
    return word == "shut" and is_shut_in(sizes, state, at, come_to(links, heads, state, at))


def is_split(links, heads, sizes, state, value):
    """Whether a tuple that begins with "split" is cases of the state."""
    if len(value) != 3:
        return False
    place, rows = value[1], value[2]
    if not is_integer(place, 0, len(links) - 1) or not has_place(free_of(links, state), place):
        return False
    if type(rows) != tuple or len(rows) != len(heads):
        return False
    return all(are_cases_of(links, heads, sizes, given(state, k, place), rows[k]) for k in range(len(heads)))


def answer_of(links, heads, sizes, state):
    """("yes", a serving that leaves each head its own places), or ("no", cases of the state)."""
    comes = [come_to(links, heads, state, k) for k in range(len(heads))]
    found = short_cases(links, sizes, state, comes)
    if found is not None:
        return ("no", found)
    free = free_of(links, state)
    if free == 0:
        # No head is over its size, so none is below it; none is shut in, so each lot hangs together.
        return ("yes", tuple(lot_of(own) for own in state))
    place = narrowest(lot_of(free), comes)
    rows = []
    for k in range(len(heads)):
        word, part = answer_of(links, heads, sizes, given(state, k, place))
        if word == "yes":
            return ("yes", part)
        rows.append(part)
    return ("no", ("split", place, tuple(rows)))


def short_cases(links, sizes, state, comes):
    """Cases of the state that split nothing, or None; the k-th head can come to the places of comes[k]."""
    for k in range(len(state)):
        if is_over(sizes, state, k):
            return ("over", k)
        if is_shut_in(sizes, state, k, comes[k]):
            return ("shut", k)
    for place in lot_of(free_of(links, state)):
        if heads_to(comes, place) == 0:
            return ("lost", place)
    return None


def heads_to(comes, place):
    """How many heads can come to a place; the k-th one can come to the places of comes[k]."""
    return len([come for come in comes if has_place(come, place)])


def narrowest(lot, comes):
    """The place of a lot to which the fewest heads can come: where little is left to choose, cases stay few."""
    return min([(heads_to(comes, place), place) for place in lot])[1]
