"""What the other modules stand on: kinds of values, lots as masks, faults, and checks of arguments.

A mask is an integer that stands for some places: its k-th bit is 1 if the k-th place is among them.
The links of a land are a list with, for each place, the mask of its neighbours.
"""

from math import gcd

from wardsdrawn.errors import InvalidBounds, InvalidCount, InvalidLand, InvalidLot
from wardsdrawn.errors import InvalidPart, InvalidPlace, InvalidPlan

FEWEST_PLACES = 2
MOST_PLACES = 12
MOST_FOLK = 1000000


def is_integer(value, low, high):
    """Whether any value is an integer from low to high."""
    # isinstance would let truths and subclasses pass, which are no integers here.
    return type(value) == int and low <= value <= high


def is_ascending(row):
    """Whether each member of a row, all of one kind, is greater than the one ahead."""
    return all(row[k] < row[k + 1] for k in range(len(row) - 1))


def is_place(land, value):
    """Whether any value is a place of the land."""
    return is_integer(value, 0, len(land[0]) - 1)


def is_lot(land, value):
    """Whether any value is a lot of places of the land, one at least."""
    if type(value) != tuple or len(value) == 0:
        return False
    # Places alone can be compared, so the members are judged before their sequence.
    return all(is_place(land, place) for place in value) and is_ascending(value)


def is_sequence(land, value):
    """Whether any value is a tuple of all places of the land, each once."""
    if type(value) != tuple or len(value) != len(land[0]):
        return False
    return all(is_place(land, place) for place in value) and len(set(value)) == len(value)


def fraction(top, bottom):
    """The fraction of a top by a bottom above 0."""
    common = gcd(top, bottom)
    return (top // common, bottom // common)


def mask_of(lot):
    """The mask of the places of a lot."""
    return sum(1 << place for place in lot)


def lot_of(mask):
    """The lot of the places of a mask."""
    return tuple(place for place in range(mask.bit_length()) if (mask >> place) & 1)


def whole_mask(land):
    """The mask of all places of the land."""
    return (1 << len(land[0])) - 1


def links_of(land):
    """The links of the land."""
    links = [0] * len(land[0])
    for low, high in land[1]:
        links[low] |= 1 << high
        links[high] |= 1 << low
    return links


def reached(links, start, mask):
    """The mask of what is come to from the places of start, which are within the mask, without leaving it."""
    seen = start
    fresh = start
    while fresh:
        around = 0
        for place in lot_of(fresh):
            around |= links[place]
        fresh = around & (mask ^ seen)
        seen |= fresh
    return seen


def piece_masks(links, mask):
    """The list of the masks of the pieces of a mask, ascending by their least places."""
    found = []
    rest = mask
    while rest:
        least = rest & -rest
        piece = reached(links, least, rest)
        found.append(piece)
        rest ^= piece
    return found


def hangs_together(links, mask):
    """Whether the places of a mask, one at least, hang together."""
    return reached(links, mask & -mask, mask) == mask


def fault_of_land(value):
    """Where the first fault of any value is that is no land, as a tuple of indexes; None of a land."""
    if type(value) != tuple or len(value) != 2:
        return ()
    folk, borders = value
    place = fault_of_folk(folk)
    if place is None:
        place = fault_of_borders(borders, len(folk))
    return place


def fault_of_folk(folk):
    """Where the first fault of the folk of a land is, or None."""
    if type(folk) != tuple or not FEWEST_PLACES <= len(folk) <= MOST_PLACES:
        return (0,)
    for k in range(len(folk)):
        if not is_integer(folk[k], 0, MOST_FOLK):
            return (0, k)
    return None


def fault_of_borders(borders, many):
    """Where the first fault of the borders of a land with so many places is, or None."""
    if type(borders) != tuple:
        return (1,)
    for k in range(len(borders)):
        if not is_border(borders[k], many):
            return (1, k)
        if k > 0 and borders[k] <= borders[k - 1]:
            return (1, k)
    return None


def is_border(value, many):
    """Whether any value is a pair of two of so many places, the lesser one ahead."""
    if type(value) != tuple or len(value) != 2:
        return False
    low, high = value
    return is_integer(high, 0, many - 1) and is_integer(low, 0, high - 1)


def fault_of_plan(land, value):
    """The index of the first fault of any value that is no plan of the land; None of a plan."""
    if type(value) != tuple or len(value) == 0:
        return 0
    links = links_of(land)
    taken = 0
    for k in range(len(value)):
        if not is_lot(land, value[k]):
            return k
        ward = mask_of(value[k])
        if ward & taken or not hangs_together(links, ward):
            return k
        if k > 0 and value[k] <= value[k - 1]:
            return k
        taken |= ward
    if taken != whole_mask(land):
        return len(value)
    return None


def check_land(land):
    """InvalidLand unless any value is a land."""
    place = fault_of_land(land)
    if place is not None:
        raise InvalidLand(place)


def check_plan(land, plan):
    """InvalidPlan unless any value is a plan of the land."""
    index = fault_of_plan(land, plan)
    if index is not None:
        raise InvalidPlan(index)


def check_lot(land, lot):
    """InvalidLot unless any value is a lot of places of the land, one at least."""
    if not is_lot(land, lot):
        raise InvalidLot("no lot of one or more places of the land")


def check_head(land, head):
    """InvalidPlace unless any value is a place of the land."""
    if not is_place(land, head):
        raise InvalidPlace("no place of the land")


def check_heads(land, head, other_head):
    """InvalidPlace unless any two values are two unlike places of the land."""
    check_head(land, head)
    check_head(land, other_head)
    if head == other_head:
        raise InvalidPlace("both heads are one place")


def check_count(count, low, high):
    """InvalidCount unless any value is an integer from low to high."""
    if not is_integer(count, low, high):
        raise InvalidCount("no integer within the bounds")


def check_low(low):
    """InvalidBounds unless any value is an integer from 0 on."""
    if type(low) != int or low < 0:
        raise InvalidBounds("low is no integer from 0 on")


def check_bounds(low, high):
    """InvalidBounds unless any two values are integers from 0 on, high not below low."""
    check_low(low)
    if type(high) != int or high < low:
        raise InvalidBounds("high is no integer from low on")


def check_sequence(land, order):
    """InvalidPart unless any value is a tuple of all places of the land, each once."""
    if not is_sequence(land, order):
        raise InvalidPart("no tuple of all places, each once")
