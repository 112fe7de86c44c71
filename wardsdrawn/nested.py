"""Shires, a plan of the land too, that other plans cut or keep, and lands bundled by them."""

from wardsdrawn.errors import InvalidPart, Refused
from wardsdrawn.exchanges import divisions_of, good_wards, plan_by
from wardsdrawn.ground import check_bounds, check_count, check_land, check_plan, is_ascending, is_integer
from wardsdrawn.ground import mask_of, whole_mask
from wardsdrawn.lands import borders_between, folk_within, pair_of, ward_row

FEWEST_PLACES_LEFT = 2
MOST_WARDS = 6


def cut_shires(land, plan, shires):
    """The ascending tuple of the indexes of the shires that a plan cuts."""
    check_land(land)
    check_plan(land, plan)
    check_plan(land, shires)
    return shires_cut([mask_of(ward) for ward in plan], [mask_of(shire) for shire in shires])


def common_lots(land, plan, shires):
    """The ascending tuple of the lots that each ward has in common with each shire, if any."""
    check_land(land)
    check_plan(land, plan)
    check_plan(land, shires)
    found = [tuple(place for place in ward if place in shire) for ward in plan for shire in shires]
    return tuple(sorted([lot for lot in found if lot]))


def is_nested(land, plan, other_plan):
    """Whether each ward of a plan stands within one ward of the other."""
    check_land(land)
    check_plan(land, plan)
    check_plan(land, other_plan)
    row = ward_row(other_plan)
    return all(row[place] == row[ward[0]] for ward in plan for place in ward)


def bundled(land, shires, lot):
    """(a land, rows): the land bundled by the shires of a lot, and the lots that its places were."""
    check_land(land)
    check_plan(land, shires)
    check_shire_lot(shires, lot)
    alone = [(place,) for k in range(len(shires)) if k not in lot for place in shires[k]]
    rows = tuple(sorted(alone + [shires[k] for k in lot]))
    if len(rows) < FEWEST_PLACES_LEFT:
        raise Refused("fewer than two places would be left")
    row = ward_row(rows)
    borders = sorted({pair_of(row[low], row[high]) for low, high in borders_between(land, row)})
    return ((tuple(folk_within(land, told) for told in rows), tuple(borders)), rows)


def fewest_cut(land, shires, count, low, high):
    """(lot, plan): the fewest shires that a plan with count wards within the bounds can cut, and the least such plan.

    None if there is no such plan.
    """
    check_land(land)
    check_plan(land, shires)
    check_count(count, 1, MOST_WARDS)
    check_bounds(low, high)
    masks = [mask_of(shire) for shire in shires]
    found = divisions_of(good_wards(land, low, high), whole_mask(land), count)
    if not found:
        return None
    lots = {division: shires_cut(division, masks) for division in found}
    # A plan that cuts the fewest cuts all of them, so the lots need no others.
    lot = min([(len(lots[division]), lots[division]) for division in found])[1]
    return (lot, min([plan_by(division) for division in found if lots[division] == lot]))


def is_barred(land, shires, lot, count, low, high):
    """Whether no plan with count wards within the bounds keeps all shires but those of a lot."""
    check_land(land)
    check_plan(land, shires)
    check_shire_lot(shires, lot)
    check_count(count, 1, MOST_WARDS)
    check_bounds(low, high)
    kept = [mask_of(shires[k]) for k in range(len(shires)) if k not in lot]
    found = divisions_of(good_wards(land, low, high), whole_mask(land), count)
    return all(shires_cut(division, kept) for division in found)


def check_shire_lot(shires, lot):
    """InvalidPart unless any value is a lot of indexes of shires, perhaps ()."""
    if type(lot) != tuple or not all(is_integer(index, 0, len(shires) - 1) for index in lot):
        raise InvalidPart("no tuple of indexes of shires")
    if not is_ascending(lot):
        raise InvalidPart("no ascending tuple")


def shires_cut(wards, shires):
    """The tuple of the indexes of the shires that are within no ward, all told by masks."""
    return tuple(k for k in range(len(shires)) if not any(ward & shires[k] == shires[k] for ward in wards))
