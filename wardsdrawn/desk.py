"""A desk on which a plan is turned by hand, edit upon edit, within bounds of folk."""

from wardsdrawn.errors import Refused
from wardsdrawn.exchanges import check_fit, is_fit
from wardsdrawn.ground import check_bounds, check_count, check_head, check_heads, check_land, check_lot, check_plan
from wardsdrawn.ground import fault_of_plan
from wardsdrawn.lands import borders_between, folk_within, plan_with, ward_row


class Desk:
    """A plan of a land, each ward with folk from low to high, and the edits that led to it."""

    def __init__(self, land, plan, low, high):
        check_land(land)
        check_plan(land, plan)
        check_bounds(low, high)
        check_fit(land, plan, low, high)
        self._land = land
        self._plan = plan
        self._low = low
        self._high = high
        # The plans ahead of each edit that can be taken back, and those behind each one that can be done again.
        self._ahead = []
        self._behind = []

    @property
    def land(self):
        """The land."""
        return self._land

    @property
    def plan(self):
        """The plan as it is."""
        return self._plan

    @property
    def low(self):
        """The least folk of a ward."""
        return self._low

    @property
    def high(self):
        """The most folk of a ward."""
        return self._high

    @property
    def edits(self):
        """How many edits undo could take back now."""
        return len(self._ahead)

    def give(self, head, number):
        """A place goes from its ward to another one."""
        check_head(self._land, head)
        self._check_ward(number)
        if head in self._plan[number]:
            raise Refused("the place is in that ward")
        self._edit(given(self._plan, head, number))

    def trade(self, head, other_head):
        """Two places go each to the ward of the other one."""
        check_heads(self._land, head, other_head)
        row = ward_row(self._plan)
        if row[head] == row[other_head]:
            raise Refused("both places are in one ward")
        turn = {head: other_head, other_head: head}
        self._edit(plan_with([[turn.get(place, place) for place in ward] for ward in self._plan]))

    def join(self, number, other_number):
        """Two wards become one."""
        self._check_ward(number)
        self._check_ward(other_number)
        if number == other_number:
            raise Refused("both wards are one")
        both = self._plan[number] + self._plan[other_number]
        self._edit(plan_with(without_wards(self._plan, (number, other_number)) + [both]))

    def part(self, number, lot):
        """A ward becomes two: a lot of its places, and the rest of it."""
        self._check_ward(number)
        check_lot(self._land, lot)
        ward = self._plan[number]
        if not all(place in ward for place in lot):
            raise Refused("the lot is not within the ward")
        if lot == ward:
            raise Refused("the lot is all of the ward")
        rest = [place for place in ward if place not in lot]
        self._edit(plan_with(without_wards(self._plan, (number,)) + [lot, rest]))

    def undo(self):
        """The last edit that is not taken back is taken back."""
        if not self._ahead:
            raise Refused("there is no edit to take back")
        self._behind.append(self._plan)
        self._plan = self._ahead.pop()

    def redo(self):
        """The edit that was taken back last is done again."""
        if not self._behind:
            raise Refused("there is no edit to do again")
        self._ahead.append(self._plan)
        self._plan = self._behind.pop()

    def ward_of(self, head):
        """The index of the ward of a place."""
        check_head(self._land, head)
        return ward_row(self._plan)[head]

    def folk(self):
        """The tuple of the folk of the wards."""
        return tuple(folk_within(self._land, ward) for ward in self._plan)

    def cut(self):
        """How many borders there are between places of unlike wards."""
        return len(borders_between(self._land, ward_row(self._plan)))

    def could(self):
        """The ascending tuple of the pairs (place, index of a ward) that give would not refuse."""
        found = []
        for place in range(len(self._land[0])):
            for number in range(len(self._plan)):
                if place not in self._plan[number] and self._is_right(given(self._plan, place, number)):
                    found.append((place, number))
        return tuple(found)

    def within(self, low, high):
        """A new Desk of the same land and plan with these bounds, without an edit."""
        return Desk(self._land, self._plan, low, high)

    def fork(self):
        """A new Desk of the same land and plan with the same bounds, without an edit."""
        return self.within(self._low, self._high)

    def _check_ward(self, number):
        """InvalidCount unless any value is the index of a ward of the plan as it is."""
        check_count(number, 0, len(self._plan) - 1)

    def _is_right(self, plan):
        """Whether a tuple of wards, perhaps without a place, or apart, is a plan that fits."""
        return fault_of_plan(self._land, plan) is None and is_fit(self._land, plan, self._low, self._high)

    def _edit(self, plan):
        """The plan becomes the one that an edit makes of it; Refused if that is none, or does not fit."""
        if not self._is_right(plan):
            raise Refused("what comes of it is no plan within the bounds")
        self._ahead.append(self._plan)
        self._behind = []
        self._plan = plan


def given(plan, head, number):
    """The wards of a plan, a place of it gone to the ward of an index; its own ward may be left without a place."""
    wards = [[place for place in ward if place != head] for ward in plan]
    wards[number].append(head)
    return plan_with(wards)


def without_wards(plan, numbers):
    """The list of the wards of a plan but for those of some indexes."""
    return [plan[k] for k in range(len(plan)) if k not in numbers]
