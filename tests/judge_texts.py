"""A plain judge of texts and commands for the tests: a text goes on where some end makes it match its form.

Nothing of the package is used here.
"""

import re

NUMBER = "(?:0|[1-9][0-9]{0,11})"
NUMBERS = f"{NUMBER}(?: {NUMBER})*"
LAND = f"folk {NUMBERS}(?:\n{NUMBER}: {NUMBERS})*"
PLAN = f"{NUMBERS}(?:\n{NUMBERS})*"
STEP = " ".join([NUMBER] * 4)
TAPE = f"(?:{STEP}(?:\n{STEP})*)?"
COMMAND = "|".join([
    f"land\n{LAND}", f"desk {NUMBER} {NUMBER}\n{PLAN}", f"shires\n{PLAN}",
    f"(?:give|trade|join|within) {NUMBER} {NUMBER}", f"part {NUMBER} {NUMBERS}", f"(?:ward|fewest) {NUMBER}",
    "undo|redo|plan|bounds|folk|cut|spread|could|text|split|nested",
])

# Right ones of each form; at each sign of a text that goes on, some end of one of these makes it a right one.
LANDS = ("folk 1\n1: 1",)
PLANS = ("1\n1",)
TAPES = ("1 1 1 1\n1 1 1 1",)
COMMANDS = ("land\nfolk 1\n1: 1", "desk 1 1\n1", "shires\n1", "give 1 1", "trade 1 1", "join 1 1", "within 1 1",
            "part 1 1", "ward 1", "fewest 1", "undo", "redo", "plan", "bounds", "folk", "cut", "spread", "could",
            "text", "split", "nested")


def form_index(form, known, text):
    """None of a text of a form, else the index of the first sign at which none goes on."""
    if re.fullmatch(form, text):
        return None
    ends = sorted({told[k:] for told in known for k in range(len(told) + 1)})
    for k in range(len(text)):
        if not any(re.fullmatch(form, text[:k + 1] + end) for end in ends):
            return k
    return len(text)


def numbers_of(line):
    return [int(word) for word in line.replace(":", "").split(" ") if word != "folk"]


def rows_of(text):
    """The lists of the numbers of the lines of a right text."""
    return [numbers_of(line) for line in text.split("\n")]


def first_twice(values):
    """The first one of some values that stood ahead of it, or None."""
    for k, value in enumerate(values):
        if value in values[:k]:
            return value
    return None


def borders_told(text):
    """The borders of a right text of a land, as they are told, the lesser place of each ahead."""
    return [(min(row[0], other), max(row[0], other)) for row in rows_of(text)[1:] for other in row[1:]]


def land_of(text):
    """The land, or what is none, of a right text."""
    return (tuple(rows_of(text)[0]), tuple(sorted(borders_told(text))))


def plan_of(text):
    return tuple(sorted(tuple(sorted(row)) for row in rows_of(text)))


def land_text(land):
    lines = ["folk " + " ".join(map(str, land[0]))]
    for place in range(len(land[0])):
        later = [high for low, high in land[1] if low == place]
        if later:
            lines.append(f"{place}: " + " ".join(map(str, later)))
    return "\n".join(lines)


def rows_text(rows):
    return "\n".join(" ".join(map(str, row)) for row in rows)


def changed(text, signs):
    """Texts that come from a text by one sign cut off, put in, taken out or exchanged, and by lines changed."""
    found = [text[:k] for k in range(len(text))]
    for k in range(len(text) + 1):
        found.append(text[:k] + text[k + 1:])
        for sign in signs:
            found += [text[:k] + sign + text[k:], text[:k] + sign + text[k + 1:]]
    lines = text.split("\n")
    for k in range(len(lines)):
        found += ["\n".join(lines[:k] + lines[k + 1:]), "\n".join(lines[:k] + [lines[k]] + lines[k:])]
        for other in range(k):
            found.append("\n".join([*lines[:other], lines[k], *lines[other + 1:k], lines[other], *lines[k + 1:]]))
    return sorted(set(found))
