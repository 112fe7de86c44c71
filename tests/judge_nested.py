"""A plain judge of shires for the tests, by walking through all plans of a land.

Nothing of the package is used here.
"""

from tests import judge


def wards_of(plan, lot):
    """The wards of a plan that have a place of a lot."""
    return [ward for ward in plan if set(ward) & set(lot)]


def cut_shires(plan, shires):
    return tuple(k for k, shire in enumerate(shires) if len(wards_of(plan, shire)) > 1)


def common_lots(plan, shires):
    found = [tuple(sorted(set(ward) & set(shire))) for ward in plan for shire in shires]
    return tuple(sorted(lot for lot in found if lot))


def is_nested(plan, other_plan):
    return all(any(set(ward) <= set(other) for other in other_plan) for ward in plan)


def bundled(land, shires, lot):
    """(a land, rows), also where fewer than two places are left."""
    places = {}
    for k, shire in enumerate(shires):
        for place in shire:
            places[place] = shire if k in lot else (place,)
    rows = sorted(set(places.values()), key=lambda row: row[0])
    where = {place: rows.index(row) for place, row in places.items()}
    borders = {tuple(sorted((where[low], where[high]))) for low, high in land[1] if where[low] != where[high]}
    return ((tuple(judge.folk_of(land, row) for row in rows), tuple(sorted(borders))), tuple(rows))


def fitting(land, count, low, high):
    """The plans of count wards with folk from low to high."""
    return [plan for plan in judge.plans(land)
            if len(plan) == count and all(low <= judge.folk_of(land, ward) <= high for ward in plan)]


def fewest_cut(plans, shires):
    """(lot, plan), by walking through all lots, those of fewest shires first, and all plans."""
    for lot in sorted([(), *judge.lots_within(tuple(range(len(shires))))], key=lambda lot: (len(lot), lot)):
        keeping = [plan for plan in plans if not barred_by(plan, shires, lot)]
        if keeping:
            return (lot, min(keeping))
    return None


def barred_by(plan, shires, lot):
    """Whether a plan cuts a shire whose index is not in a lot."""
    return any(k not in lot for k in cut_shires(plan, shires))


def is_barred(plans, shires, lot):
    return all(barred_by(plan, shires, lot) for plan in plans)
