"""Pictures of lands and plans in signs."""

from wardsdrawn.errors import InvalidPart
from wardsdrawn.ground import check_count, check_land, check_plan, fault_of_folk, fault_of_land, fault_of_plan
from wardsdrawn.lands import folk_within, plan_with, ward_row

LETTERS = "abcdefghijkl"
MOST_WIDE = 100


def square(land, plan):
    """The tuple of rows of signs, a row and a sign for each place."""
    check_land(land)
    check_plan(land, plan)
    row = ward_row(plan)
    many = len(land[0])
    lines = []
    for one in range(many):
        lines.append("".join([sign_of(land, row, one, other) for other in range(many)]))
    return tuple(lines)


def bars(land, plan, wide):
    """The tuple of rows, for each ward its letter and a bar as long as its folk, the longest so wide."""
    check_land(land)
    check_plan(land, plan)
    check_count(wide, 1, MOST_WIDE)
    folk = [folk_within(land, ward) for ward in plan]
    most = max(folk)
    return tuple(LETTERS[k] + " " + bar_of(folk[k], most, wide) for k in range(len(plan)))


def listed(land, plan):
    """The tuple of rows, for each ward its letter, its folk and its places."""
    check_land(land)
    check_plan(land, plan)
    rows = []
    for k in range(len(plan)):
        places = " ".join(str(place) for place in plan[k])
        rows.append(f"{LETTERS[k]} {folk_within(land, plan[k])} : {places}")
    return tuple(rows)


def arcs(land, plan):
    """The tuple of rows, one for each border, and a last one with the letters of the wards of the places."""
    check_land(land)
    check_plan(land, plan)
    return arcs_of(land, plan)


def arcs_told(folk, rows):
    """(land, plan): the land with this folk, and the plan, whose picture by arcs the rows are."""
    if fault_of_folk(folk) is not None:
        raise InvalidPart("no folk of a land")
    if not are_rows(rows, len(folk)):
        raise InvalidPart("no rows of a picture")
    land = (folk, tuple(places_at(row, "+") for row in rows[:-1]))
    plan = plan_with([places_at(rows[-1], letter) for letter in LETTERS if letter in rows[-1]])
    if fault_of_land(land) is not None or fault_of_plan(land, plan) is not None:
        raise InvalidPart("a picture of no land, or of no plan")
    # What else stands in the rows is right exactly if the picture of what was told is the same.
    if arcs_of(land, plan) != rows:
        raise InvalidPart("no picture by arcs")
    return (land, plan)


def sign_of(land, row, one, other):
    """The sign of two places in a square, by the ward row of the plan."""
    if one == other:
        return LETTERS[row[one]]
    if (min(one, other), max(one, other)) not in land[1]:
        return "."
    return "-" if row[one] == row[other] else "#"


def bar_of(folk, most, wide):
    """The signs of the bar of a ward with this folk, where most is the folk of the greatest one."""
    signs = ""
    for k in range(wide):
        # The bar is wide * folk by most; both sides are taken times most, so that nothing is rounded.
        if most > 0 and wide * folk >= (k + 1) * most:
            signs += "#"
        elif wide * folk > k * most:
            signs += "+"
        else:
            signs += "."
    return signs


def arcs_of(land, plan):
    """The picture by arcs; all arguments are right."""
    row = ward_row(plan)
    many = len(land[0])
    lines = []
    for low, high in land[1]:
        between = "-" if row[low] == row[high] else "="
        lines.append(".." * low + "+" + between * (2 * (high - low) - 1) + "+" + ".." * (many - 1 - high))
    lines.append(" ".join([LETTERS[row[place]] for place in range(many)]))
    return tuple(lines)


def are_rows(value, many):
    """Whether any value is a tuple of rows, one at least, each with signs for so many places."""
    if type(value) != tuple or len(value) == 0:
        return False
    return all(type(row) == str and len(row) == 2 * many - 1 for row in value)


def places_at(row, sign):
    """The tuple of the places at whose signs a sign stands in a row."""
    return tuple(k // 2 for k in range(0, len(row), 2) if row[k] == sign)
