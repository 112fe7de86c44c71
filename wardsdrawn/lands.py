"""Lands, lots of their places, and plans that part them into wards."""

from wardsdrawn.errors import InvalidPart, Refused
from wardsdrawn.ground import check_head, check_land, check_lot, check_plan, check_sequence
from wardsdrawn.ground import fault_of_land, fault_of_plan, hangs_together, links_of, lot_of, mask_of, piece_masks


def land_fault(value):
    """None of a land, else the tuple of indexes that tells where the first fault of any value is."""
    return fault_of_land(value)


def plan_fault(land, value):
    """None of a plan of the land, else the index of the first fault of any value."""
    check_land(land)
    return fault_of_plan(land, value)


def is_land(value):
    """Whether any value is a land."""
    return fault_of_land(value) is None


def is_plan(land, value):
    """Whether any value is a plan of the land."""
    check_land(land)
    return fault_of_plan(land, value) is None


def neighbours(land, head):
    """The lot of the neighbours of a place."""
    check_land(land)
    check_head(land, head)
    return lot_of(links_of(land)[head])


def hangs(land, lot):
    """Whether a lot hangs together."""
    check_land(land)
    check_lot(land, lot)
    return hangs_together(links_of(land), mask_of(lot))


def pieces(land, lot):
    """The ascending tuple of the greatest lots within a lot that hang together."""
    check_land(land)
    check_lot(land, lot)
    return tuple(lot_of(piece) for piece in piece_masks(links_of(land), mask_of(lot)))


def cut_places(land, lot):
    """The lot of those of its places without which the others are in more pieces than the lot itself."""
    check_land(land)
    check_lot(land, lot)
    links = links_of(land)
    mask = mask_of(lot)
    many = len(piece_masks(links, mask))
    return tuple(place for place in lot if len(piece_masks(links, mask ^ (1 << place))) > many)


def folk_of(land, lot):
    """The folk of all places of a lot."""
    check_land(land)
    check_lot(land, lot)
    return folk_within(land, lot)


def cut_borders(land, plan):
    """The ascending tuple of the borders whose places are in unlike wards."""
    check_land(land)
    check_plan(land, plan)
    return borders_between(land, ward_row(plan))


def near_wards(land, plan):
    """The ascending tuple of the pairs of indexes of wards with a cut border between them."""
    check_land(land)
    check_plan(land, plan)
    row = ward_row(plan)
    near = [pair_of(row[low], row[high]) for low, high in borders_between(land, row)]
    return tuple(sorted(set(near)))


def ward_of(land, plan, head):
    """The index of the ward that has a place."""
    check_land(land)
    check_plan(land, plan)
    check_head(land, head)
    return ward_row(plan)[head]


def spread(land, plan):
    """The folk of the ward with most less that of the ward with least."""
    check_land(land)
    check_plan(land, plan)
    folk = [folk_within(land, ward) for ward in plan]
    return max(folk) - min(folk)


def plan_of(land, row):
    """The plan in which two places are in one ward exactly if the row has the same integer for both."""
    check_land(land)
    check_row(land, row)
    wards = {}
    for place in range(len(row)):
        wards.setdefault(row[place], []).append(place)
    plan = plan_with(list(wards.values()))
    links = links_of(land)
    if not all(hangs_together(links, mask_of(ward)) for ward in plan):
        raise Refused("a ward would not hang together")
    return plan


def turned(land, order):
    """The land whose k-th place is the place order[k] of the land, its borders led along."""
    check_land(land)
    check_sequence(land, order)
    folk, borders = land
    where = where_in(order)
    led = [pair_of(where[low], where[high]) for low, high in borders]
    return (tuple(folk[place] for place in order), tuple(sorted(led)))


def turned_plan(land, plan, order):
    """The same wards, led along, as a plan of the turned land."""
    check_land(land)
    check_plan(land, plan)
    check_sequence(land, order)
    where = where_in(order)
    return plan_with([[where[place] for place in ward] for ward in plan])


def check_row(land, row):
    """InvalidPart unless any value is a tuple of an integer for each place."""
    if type(row) != tuple or len(row) != len(land[0]):
        raise InvalidPart("no tuple with as many members as there are places")
    if not all(type(number) == int for number in row):
        raise InvalidPart("not all members are integers")


def folk_within(land, lot):
    """The folk of all places of a lot of the land."""
    return sum(land[0][place] for place in lot)


def ward_row(plan):
    """The dict that gives for each place the index of its ward."""
    row = {}
    for k in range(len(plan)):
        for place in plan[k]:
            row[place] = k
    return row


def borders_between(land, row):
    """The tuple of the borders of the land whose places have unlike wards in the ward row."""
    return tuple((low, high) for low, high in land[1] if row[low] != row[high])


def pair_of(one, other):
    """The pair of two unlike integers, the lesser one ahead."""
    return (min(one, other), max(one, other))


def plan_with(wards):
    """The plan with the wards, told as a list of lists of places in any sequence."""
    return tuple(sorted([tuple(sorted(ward)) for ward in wards]))


def where_in(order):
    """The dict that gives for each place its index in a sequence of all places."""
    return {order[k]: k for k in range(len(order))}
