"""A plain console for the tests: forms by their patterns, and what is told by a desk of the package.

As a console answers as its land, its Desk and its shires, the Desk here is the package's own one.
"""

import re

from tests import judge_texts
from wardsdrawn.desk import Desk
from wardsdrawn.errors import InvalidCommand, InvalidLand, InvalidPlan, Refused, Twice
from wardsdrawn.lands import land_fault, plan_fault, spread
from wardsdrawn.nested import cut_shires, fewest_cut, is_nested


class PlainConsole:

    def __init__(self):
        self.land = self.desk = self.shires = None

    def execute(self, command):
        if type(command) is not str:
            raise InvalidCommand(0)
        index = judge_texts.form_index(judge_texts.COMMAND, judge_texts.COMMANDS, command)
        if index is not None:
            raise InvalidCommand(index)
        line, _, text = command.partition("\n")
        word, *numbers = line.split(" ")
        numbers = [int(number) for number in numbers]
        if word != "land" and self.land is None:
            raise Refused("no land")
        if word not in ("land", "desk", "shires") and self.desk is None:
            raise Refused("no desk")
        if word in ("split", "nested", "fewest") and self.shires is None:
            raise Refused("no shires")
        answer = getattr(self, f"do_{word}")(numbers, text)
        return "" if answer is None else answer

    def told_plan(self, text):
        twice = judge_texts.first_twice(re.findall("[0-9]+", text))
        if twice is not None:
            raise Twice(twice)
        plan = judge_texts.plan_of(text)
        if plan_fault(self.land, plan) is not None:
            raise InvalidPlan(plan_fault(self.land, plan))
        return plan

    def do_land(self, numbers, text):
        twice = judge_texts.first_twice(judge_texts.borders_told(text))
        if twice is not None:
            raise Twice(f"{twice[0]}-{twice[1]}")
        land = judge_texts.land_of(text)
        if land_fault(land) is not None:
            raise InvalidLand(land_fault(land))
        self.land, self.desk, self.shires = land, None, None

    def do_desk(self, numbers, text):
        self.desk = Desk(self.land, self.told_plan(text), *numbers)

    def do_shires(self, numbers, text):
        self.shires = self.told_plan(text)

    def do_give(self, numbers, text):
        self.desk.give(*numbers)

    def do_trade(self, numbers, text):
        self.desk.trade(*numbers)

    def do_join(self, numbers, text):
        self.desk.join(*numbers)

    def do_part(self, numbers, text):
        number, *lot = numbers
        twice = judge_texts.first_twice(lot)
        if twice is not None:
            raise Twice(str(twice))
        self.desk.part(number, tuple(sorted(lot)))

    def do_undo(self, numbers, text):
        self.desk.undo()

    def do_redo(self, numbers, text):
        self.desk.redo()

    def do_within(self, numbers, text):
        self.desk = self.desk.within(*numbers)

    def do_plan(self, numbers, text):
        return judge_texts.rows_text(self.desk.plan)

    def do_bounds(self, numbers, text):
        return f"{self.desk.low} {self.desk.high}"

    def do_folk(self, numbers, text):
        return judge_texts.rows_text([self.desk.folk()])

    def do_cut(self, numbers, text):
        return str(self.desk.cut())

    def do_ward(self, numbers, text):
        return str(self.desk.ward_of(*numbers))

    def do_spread(self, numbers, text):
        return str(spread(self.land, self.desk.plan))

    def do_could(self, numbers, text):
        return judge_texts.rows_text(self.desk.could())

    def do_text(self, numbers, text):
        return judge_texts.land_text(self.land)

    def do_split(self, numbers, text):
        return judge_texts.rows_text([cut_shires(self.land, self.desk.plan, self.shires)]) or "none"

    def do_nested(self, numbers, text):
        return "yes" if is_nested(self.land, self.desk.plan, self.shires) else "no"

    def do_fewest(self, numbers, text):
        found = fewest_cut(self.land, self.shires, *numbers, self.desk.low, self.desk.high)
        if found is None:
            return "none"
        lot, plan = found
        return f"cut {judge_texts.rows_text([lot]) or 'none'}\n{judge_texts.rows_text(plan)}"
