"""A console: commands as texts, to which a land, a desk and shires answer."""

from wardsdrawn.desk import Desk
from wardsdrawn.errors import InvalidCommand, InvalidText, Refused
from wardsdrawn.lands import spread
from wardsdrawn.nested import cut_shires, fewest_cut, is_nested
from wardsdrawn.texts import behind_signs, check_once, land_text, land_told, lines_text, numbers_text
from wardsdrawn.texts import plan_text, plan_told, read_land, read_lines, read_numbers

# The words that begin a command, each with how many NUMBERs stand behind it, at least and at most; None: any number.
NUMBERS = {
    "land": (0, 0), "desk": (2, 2), "shires": (0, 0),
    "give": (2, 2), "trade": (2, 2), "join": (2, 2), "part": (2, None), "undo": (0, 0), "redo": (0, 0),
    "within": (2, 2),
    "plan": (0, 0), "bounds": (0, 0), "folk": (0, 0), "cut": (0, 0), "ward": (1, 1), "spread": (0, 0),
    "could": (0, 0), "text": (0, 0),
    "split": (0, 0), "nested": (0, 0), "fewest": (1, 1),
}
# Behind these a text stands; these change the plan of the desk; these are asked of shires.
KEEPING = ("land", "desk", "shires")
EDITING = ("give", "trade", "join", "part", "undo", "redo")
ASKING_SHIRES = ("split", "nested", "fewest")


class Console:
    """A land, a desk with a plan of it, and shires of it, all of them perhaps not told yet."""

    def __init__(self):
        self._land = None
        self._desk = None
        self._shires = None

    def execute(self, command):
        """The answer to a command."""
        word, numbers, text = pieces_of(command)
        self._check_told(word)
        if word == "part":
            # The first number is the ward, the others are the lot.
            check_once([str(number) for number in numbers[1:]])
        if word in KEEPING:
            self._keep(word, numbers, text)
            return ""
        if word in EDITING:
            self._edit(word, numbers)
            return ""
        if word == "within":
            self._desk = self._desk.within(numbers[0], numbers[1])
            return ""
        if word in ASKING_SHIRES:
            return self._answer_of_shires(word, numbers)
        return self._answer_of_desk(word, numbers)

    def _check_told(self, word):
        """Refused unless all is told that a command with this word needs."""
        if self._land is None and word != "land":
            raise Refused("there is no land yet")
        if self._desk is None and word not in KEEPING:
            raise Refused("there is no desk yet")
        if self._shires is None and word in ASKING_SHIRES:
            raise Refused("there are no shires yet")

    def _keep(self, word, numbers, text):
        """What a text tells is kept."""
        if word == "land":
            self._land = land_told(text)
            self._desk = None
            self._shires = None
        elif word == "desk":
            low, high = numbers
            self._desk = Desk(self._land, plan_told(self._land, text), low, high)
        else:
            self._shires = plan_told(self._land, text)

    def _edit(self, word, numbers):
        """The plan of the desk is changed."""
        desk = self._desk
        if word == "give":
            desk.give(numbers[0], numbers[1])
        elif word == "trade":
            desk.trade(numbers[0], numbers[1])
        elif word == "join":
            desk.join(numbers[0], numbers[1])
        elif word == "part":
            desk.part(numbers[0], tuple(sorted(numbers[1:])))
        elif word == "undo":
            desk.undo()
        else:
            desk.redo()

    def _answer_of_desk(self, word, numbers):
        """What the desk tells, or its land."""
        desk = self._desk
        if word == "plan":
            return plan_text(desk.land, desk.plan)
        if word == "bounds":
            return numbers_text([desk.low, desk.high])
        if word == "folk":
            return numbers_text(desk.folk())
        if word == "cut":
            return str(desk.cut())
        if word == "ward":
            return str(desk.ward_of(numbers[0]))
        if word == "spread":
            return str(spread(desk.land, desk.plan))
        if word == "could":
            return lines_text(desk.could())
        return land_text(desk.land)

    def _answer_of_shires(self, word, numbers):
        """What is told of the plan of the desk, or of its bounds, with the shires."""
        land, plan = self._desk.land, self._desk.plan
        if word == "split":
            return lot_text(cut_shires(land, plan, self._shires))
        if word == "nested":
            return "yes" if is_nested(land, plan, self._shires) else "no"
        found = fewest_cut(land, self._shires, numbers[0], self._desk.low, self._desk.high)
        if found is None:
            return "none"
        lot, least = found
        return "cut " + lot_text(lot) + "\n" + plan_text(land, least)


def lot_text(lot):
    """The text of a lot of indexes, or none."""
    return numbers_text(lot) if lot else "none"


def pieces_of(command):
    """(word, numbers, text): the pieces of a command; the text is "" where none stands in it."""
    if type(command) != str:
        raise InvalidCommand(0)
    word = word_of(command)
    least, most = NUMBERS[word]
    try:
        numbers, at = read_numbers(command, len(word), least, most)
        if word in KEEPING:
            at = behind_signs(command, at, "\n")
            read_text(word, command, at)
        elif at < len(command):
            raise InvalidText(at)
    except InvalidText as fault:
        raise InvalidCommand(fault.index) from None
    return word, numbers, command[at:]


def word_of(command):
    """The word that begins a command; InvalidCommand where none goes on."""
    most = 0
    for word in NUMBERS:
        if command.startswith(word):
            return word
        most = max(most, signs_alike(command, word))
    raise InvalidCommand(most)


def signs_alike(one, other):
    """How many signs at the beginning two strings have in common."""
    many = 0
    while many < min(len(one), len(other)) and one[many] == other[many]:
        many += 1
    return many


def read_text(word, command, at):
    """InvalidText unless the text that a command with this word has, from an index on, is of the right form."""
    if word == "land":
        read_land(command, at)
    else:
        read_lines(command, at, 0, None)
