"""A plain desk for the tests: all plans it ever had in one row, and the index of the one that it shows.

Nothing of the package is used here; calls answer "ok", or the name of the error.
"""

from tests import judge


def is_right(land, plan, low, high):
    """Whether a tuple of lots, () too, that have all places once, is a plan that fits."""
    return all(ward and judge.joined(land, ward) and low <= judge.folk_of(land, ward) <= high for ward in plan)


class PlainDesk:

    def __init__(self, land, plan, low, high):
        self.land, self.low, self.high = land, low, high
        self.row, self.at = [plan], 0

    @property
    def plan(self):
        return self.row[self.at]

    def is_place(self, value):
        return type(value) is int and 0 <= value < len(self.land[0])

    def is_ward(self, value):
        return type(value) is int and 0 <= value < len(self.plan)

    def index_of(self, place):
        return next(k for k, ward in enumerate(self.plan) if place in ward)

    def edited(self, wards):
        plan = tuple(sorted(tuple(sorted(ward)) for ward in wards))
        if not is_right(self.land, plan, self.low, self.high):
            return "Refused"
        self.row[self.at + 1:] = [plan]
        self.at += 1
        return "ok"

    def give(self, head, number):
        if not self.is_place(head):
            return "InvalidPlace"
        if not self.is_ward(number):
            return "InvalidCount"
        if head in self.plan[number]:
            return "Refused"
        wards = [set(ward) - {head} for ward in self.plan]
        wards[number].add(head)
        return self.edited(wards)

    def trade(self, head, other_head):
        if not self.is_place(head) or not self.is_place(other_head) or head == other_head:
            return "InvalidPlace"
        one, other = self.index_of(head), self.index_of(other_head)
        if one == other:
            return "Refused"
        wards = [set(ward) - {head, other_head} for ward in self.plan]
        wards[one].add(other_head)
        wards[other].add(head)
        return self.edited(wards)

    def join(self, number, other_number):
        if not self.is_ward(number) or not self.is_ward(other_number):
            return "InvalidCount"
        if number == other_number:
            return "Refused"
        rest = [ward for k, ward in enumerate(self.plan) if k not in (number, other_number)]
        return self.edited([*rest, self.plan[number] + self.plan[other_number]])

    def part(self, number, lot):
        if not self.is_ward(number):
            return "InvalidCount"
        if type(lot) is not tuple or not lot or not all(self.is_place(place) for place in lot):
            return "InvalidLot"
        if tuple(sorted(set(lot))) != lot:
            return "InvalidLot"
        left = set(self.plan[number]) - set(lot)
        if not set(lot) <= set(self.plan[number]) or not left:
            return "Refused"
        return self.edited([*[ward for k, ward in enumerate(self.plan) if k != number], lot, left])

    def undo(self):
        if self.at == 0:
            return "Refused"
        self.at -= 1
        return "ok"

    def redo(self):
        if self.at == len(self.row) - 1:
            return "Refused"
        self.at += 1
        return "ok"

    def could(self):
        found = []
        for place in judge.places_of(self.land):
            for number in range(len(self.plan)):
                copy = PlainDesk(self.land, self.plan, self.low, self.high)
                if copy.give(place, number) == "ok":
                    found.append((place, number))
        return tuple(found)

    def state(self):
        """What the desk tells."""
        folk = tuple(judge.folk_of(self.land, ward) for ward in self.plan)
        cut = sum(self.index_of(low) != self.index_of(high) for low, high in self.land[1])
        wards = [self.index_of(place) for place in judge.places_of(self.land)]
        return (self.land, self.plan, self.low, self.high, self.at, folk, cut, wards)
