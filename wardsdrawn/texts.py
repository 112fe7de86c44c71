"""Lands, plans and tapes as texts, and what such texts tell.

A reader takes a text and the index at which to read on, and gives what stands there with the index behind it. Where
no such text goes on it raises InvalidText with the index of the sign, in the whole text that it was given.
"""

from wardsdrawn.errors import InvalidLand, InvalidPlan, InvalidText, Twice
from wardsdrawn.ground import check_land, check_plan, fault_of_land, fault_of_plan, links_of, lot_of
from wardsdrawn.lands import pair_of, plan_with

DIGITS = "0123456789"
MOST_DIGITS = 12
NUMBERS_OF_STEP = 4


def land_text(land):
    """The text of a land."""
    check_land(land)
    links = links_of(land)
    lines = ["folk " + numbers_text(land[0])]
    for place in range(len(land[0])):
        later = [other for other in lot_of(links[place]) if other > place]
        if later:
            lines.append(f"{place}: " + numbers_text(later))
    return "\n".join(lines)


def land_told(text):
    """The land that a text tells."""
    check_text(text)
    folk, rows = read_land(text, 0)
    borders = [pair_of(place, other) for place, others in rows for other in others]
    check_once([f"{low}-{high}" for low, high in borders])
    land = (tuple(folk), tuple(sorted(borders)))
    place = fault_of_land(land)
    if place is not None:
        raise InvalidLand(place)
    return land


def plan_text(land, plan):
    """The text of a plan."""
    check_land(land)
    check_plan(land, plan)
    return lines_text(plan)


def plan_told(land, text):
    """The plan of a land that a text tells."""
    check_land(land)
    check_text(text)
    rows = read_lines(text, 0, 0, None)
    check_once([str(place) for row in rows for place in row])
    plan = plan_with(rows)
    index = fault_of_plan(land, plan)
    if index is not None:
        raise InvalidPlan(index)
    return plan


def tape_text(tape):
    """The text of a tape."""
    return lines_text(tape)


def tape_told(text):
    """The tuple of tuples of four integers that a text tells."""
    check_text(text)
    if text == "":
        return ()
    rows = read_lines(text, 0, NUMBERS_OF_STEP - 1, NUMBERS_OF_STEP - 1)
    return tuple(tuple(row) for row in rows)


def numbers_text(numbers):
    """The text of integers from 0 on, a space between two."""
    return " ".join(str(number) for number in numbers)


def lines_text(rows):
    """The text of rows of integers from 0 on, a line for each."""
    return "\n".join(numbers_text(row) for row in rows)


def check_text(text):
    """InvalidText unless any value is a string."""
    if type(text) != str:
        raise InvalidText(0)


def check_once(words):
    """Twice of the first one of words that stood ahead of it."""
    seen = set()
    for word in words:
        if word in seen:
            raise Twice(word)
        seen.add(word)


def read_land(text, at):
    """(folk, rows): the folk, and the pairs of a place and a list of others, of a text of a land up to the end."""
    at = behind_signs(text, at, "folk")
    folk, at = read_numbers(text, at, 1, None)
    rows = []
    while at < len(text):
        place, at = read_number(text, behind_signs(text, at, "\n"))
        others, at = read_numbers(text, behind_signs(text, at, ":"), 1, None)
        rows.append((place, others))
    return folk, rows


def read_lines(text, at, least, most):
    """The list of lines up to the end, one at least, each a list of a NUMBER and at least and at most so many more."""
    rows = []
    while not rows or at < len(text):
        if rows:
            at = behind_signs(text, at, "\n")
        first, at = read_number(text, at)
        others, at = read_numbers(text, at, least, most)
        rows.append([first] + others)
    return rows


def read_numbers(text, at, least, most):
    """A list of NUMBERs, a space ahead of each, at least and at most so many; None stands for any number."""
    numbers = []
    while len(numbers) < least or (text[at:at + 1] == " " and (most is None or len(numbers) < most)):
        number, at = read_number(text, behind_signs(text, at, " "))
        numbers.append(number)
    return numbers, at


def read_number(text, at):
    """The integer of a NUMBER."""
    end = at
    while end < len(text) and text[end] in DIGITS and end - at < MOST_DIGITS and text[at:end] != "0":
        end += 1
    if end == at:
        raise InvalidText(at)
    return int(text[at:end]), end


def behind_signs(text, at, signs):
    """The index behind some signs that stand at an index."""
    for sign in signs:
        if text[at:at + 1] != sign:
            raise InvalidText(at)
        at += 1
    return at
