"""Two ways round: orders with two ends, shut lots that bar them, and partings of a land into two wards."""

from wardsdrawn.errors import InvalidPart
from wardsdrawn.ground import check_count, check_heads, check_land, check_lot, is_place, is_sequence
from wardsdrawn.ground import hangs_together, links_of, lot_of, mask_of, piece_masks, whole_mask


def is_order(land, head, other_head, value):
    """Whether any value is an order of the land with the two ends."""
    check_land(land)
    check_heads(land, head, other_head)
    return is_order_between(land, head, other_head, value)


def is_shut(land, head, other_head, cut, lot):
    """Whether the pair of a cut, a place or None, and a lot is a shut lot against any order with the two ends."""
    check_land(land)
    check_heads(land, head, other_head)
    if cut is not None and not is_place(land, cut):
        raise InvalidPart("the cut is no place of the land, and not None")
    check_lot(land, lot)
    if head in lot or other_head in lot or cut in lot:
        return False
    links = links_of(land)
    allowed = mask_of(lot)
    if cut is not None:
        allowed |= 1 << cut
    return all(links[place] & allowed == links[place] for place in lot)


def ordered(land, head, other_head):
    """("yes", the least order with the two ends), or ("no", cut, lot) with a shut lot if there is none."""
    check_land(land)
    check_heads(land, head, other_head)
    shut = first_shut(land, head, other_head)
    if shut is not None:
        cut, lot = shut
        return ("no", cut, lot)
    links = links_of(land)
    ways = ways_on(links, head, other_head)
    return ("yes", order_at(links, ways, head, other_head, 0))


def order_count(land, head, other_head):
    """How many orders with the two ends there are."""
    check_land(land)
    check_heads(land, head, other_head)
    return ways_on(links_of(land), head, other_head)[1 << head]


def nth_order(land, head, other_head, number):
    """The order with the index number among all with the two ends, as tuples compare."""
    check_land(land)
    check_heads(land, head, other_head)
    links = links_of(land)
    ways = ways_on(links, head, other_head)
    check_count(number, 0, ways[1 << head] - 1)
    return order_at(links, ways, head, other_head, number)


def two_wards(land, head, other_head, size):
    """The parting of this size with the least ward, or None if there is none."""
    check_land(land)
    check_heads(land, head, other_head)
    check_size(land, size)
    found = partings(land, head, other_head)
    return min([parting for parting in found if len(parting[0]) == size], default=None)


def barred_sizes(land, head, other_head):
    """The lot of the sizes of which there is no parting."""
    counts = ward_counts(land, head, other_head)
    return tuple(k + 1 for k in range(len(counts)) if counts[k] == 0)


def ward_counts(land, head, other_head):
    """The tuple, for each size from 1 on, of how many partings there are."""
    check_land(land)
    check_heads(land, head, other_head)
    sizes = [len(parting[0]) for parting in partings(land, head, other_head)]
    return tuple(sizes.count(size) for size in range(1, len(land[0])))


def fairest(land, head, other_head):
    """(gap, ward, other ward) of the parting with the least gap and then the least ward, or None."""
    check_land(land)
    check_heads(land, head, other_head)
    found = partings(land, head, other_head)
    return min([(gap_of(land, ward, other), ward, other) for ward, other in found], default=None)


def by_order(land, head, other_head, order, size):
    """The parting of the first size places of an order, and the others."""
    check_land(land)
    check_heads(land, head, other_head)
    if not is_order_between(land, head, other_head, order):
        raise InvalidPart("no order with the two ends")
    check_size(land, size)
    return (tuple(sorted(order[:size])), tuple(sorted(order[size:])))


def check_size(land, size):
    """InvalidCount unless any value is a size of a parting of the land."""
    check_count(size, 1, len(land[0]) - 1)


def is_order_between(land, head, other_head, value):
    """Whether any value is an order; the land and both heads are right."""
    if not is_sequence(land, value) or value[0] != head or value[-1] != other_head:
        return False
    links = links_of(land)
    ahead = 1 << head
    behind = whole_mask(land) ^ ahead
    for place in value[1:-1]:
        if not has_both_ways(links[place], ahead, behind):
            return False
        ahead |= 1 << place
        behind ^= 1 << place
    return True


def has_both_ways(link, ahead, behind):
    """Whether a place with these neighbours has one ahead and one behind."""
    # The place itself may be among those behind: it is no neighbour of its own.
    return link & ahead != 0 and link & behind != 0


def next_places(links, mask, other_head):
    """The list of the places that may follow the places of the mask in an order, ahead of its last one."""
    behind = ((1 << len(links)) - 1) ^ mask
    middle = lot_of(behind ^ (1 << other_head))
    return [place for place in middle if has_both_ways(links[place], mask, behind)]


def ways_on(links, head, other_head):
    """The list that tells, by the mask of its first places, in how many ways an order goes on to its end.

    Which places came first decides what may follow, not their sequence: so masks do for all beginnings.
    """
    last = ((1 << len(links)) - 1) ^ (1 << other_head)
    ways = [0] * (1 << len(links))
    ways[last] = 1
    for mask in range(last - 1, 0, -1):
        if is_between(mask, head, other_head):
            ways[mask] = sum(ways[mask | (1 << place)] for place in next_places(links, mask, other_head))
    return ways


def is_between(mask, head, other_head):
    """Whether the mask has the head, and not the other one."""
    return (mask >> head) & 1 == 1 and (mask >> other_head) & 1 == 0


def order_at(links, ways, head, other_head, number):
    """The order with the index number; there are more orders than number."""
    order = [head]
    mask = 1 << head
    left = number
    while len(order) < len(links) - 1:
        place, left = next_step(links, ways, mask, other_head, left)
        order.append(place)
        mask |= 1 << place
    order.append(other_head)
    return tuple(order)


def next_step(links, ways, mask, other_head, number):
    """Of the orders with these first places the one with the index number: its next place, its index behind that."""
    left = number
    places = next_places(links, mask, other_head)
    at = 0
    while left >= ways[mask | (1 << places[at])]:
        left -= ways[mask | (1 << places[at])]
        at += 1
    return (places[at], left)


def first_shut(land, head, other_head):
    """(cut, lot) of the shut lot that ordered tells, or None if there is none."""
    # The border of both heads joins no piece that has neither of them, so it need not be put in.
    links = links_of(land)
    heads = mask_of((head, other_head))
    whole = whole_mask(land)
    for cut in [None] + list(range(len(links))):
        left = whole if cut is None else whole ^ (1 << cut)
        headless = [piece for piece in piece_masks(links, left) if piece & heads == 0]
        if headless:
            return (cut, lot_of(headless[0]))
    return None


def partings(land, head, other_head):
    """The list of all partings by the two heads."""
    links = links_of(land)
    whole = whole_mask(land)
    found = []
    for mask in range(1, whole):
        if is_between(mask, head, other_head) and hangs_together(links, mask):
            if hangs_together(links, whole ^ mask):
                found.append((lot_of(mask), lot_of(whole ^ mask)))
    return found


def gap_of(land, ward, other):
    """The difference, without sign, of the folk of both wards."""
    folk = land[0]
    return abs(sum(folk[place] for place in ward) - sum(folk[place] for place in other))
