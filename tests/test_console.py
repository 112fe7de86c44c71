"""Promise [19]: a console that commands are told to."""

import copy
import random
import time
import unittest

from tests import judge_texts, samples
from tests.asking import Asking
from tests.judge_console import PlainConsole
from wardsdrawn.console import Console
from wardsdrawn.errors import InvalidBounds, InvalidCommand, InvalidCount, InvalidLand, InvalidLot, InvalidPlace
from wardsdrawn.errors import InvalidPlan, Refused, Twice, WardError

LAND = "land\nfolk 2 2 2 2 2 2\n0: 1 3\n1: 2 4\n2: 5\n3: 4\n4: 5"
OTHER = "land\nfolk 1 2 3\n0: 1 2\n1: 2"
DESK = "desk 4 8\n0 1 2\n3 4 5"
WIDE = "desk 0 99\n0 1 2\n3 4 5"
SHIRES = "shires\n0 1 2\n3 4 5"
ASKED = ("plan", "bounds", "folk", "cut", "ward 4", "spread", "could", "text")
ASKED_OF_SHIRES = ("split", "nested", "fewest 2", "fewest 3")
EDITS = ("give 2 1", "trade 1 3", "join 0 1", "part 1 4 3", "undo", "redo", "within 6 6")
SIGNS = ("0", "1", "9", " ", "\n", "\t", ":", "x", "d", "-")
SECONDS = 10


def told(*commands):
    """A console to which commands were told."""
    board = Console()
    for command in commands:
        board.execute(command)
    return board


def ask(board, command):
    """What a console answers, or the name and the fields of its error."""
    try:
        return board.execute(command)
    except WardError as caught:
        return (type(caught).__name__, vars(caught))


def state_of(board):
    """What a console tells, and what it could take back and do again."""
    found = [ask(board, command) for command in ASKED + ASKED_OF_SHIRES]
    for way in ("undo", "redo"):
        other = copy.deepcopy(board)
        while ask(other, way) == "":
            found.append((way, ask(other, "plan")))
    return found


class DocumentTest(Asking):
    """The examples of the document."""

    def test_examples(self):
        board = Console()
        self.same(
            [board.execute(line) for line in (LAND, DESK, "could", "give 2 1", "plan", "folk", "cut", "spread")],
            ["", "", "0 1\n2 1\n3 0\n5 0", "", "0 1\n2 3 4 5", "4 8", "3", "4"],
        )
        self.same(
            [board.execute(line) for line in (SHIRES, "split", "nested", "fewest 2", "within 4 40", "fewest 3",
                                              "bounds")],
            ["", "0", "no", "cut none\n0 1 2\n3 4 5", "", "cut 0 1\n0 1\n2 5\n3 4", "4 40"],
        )


class AnswersTest(Asking):

    def test_each_command(self):
        board = told(LAND, WIDE, SHIRES)
        for command, answer in (
            ("text", LAND[5:]), ("bounds", "0 99"), ("plan", "0 1 2\n3 4 5"), ("folk", "6 6"), ("cut", "3"),
            ("ward 3", "1"), ("spread", "0"), ("could", "0 1\n2 1\n3 0\n5 0"), ("split", "none"), ("nested", "yes"),
            ("part 0 1 0", ""), ("plan", "0 1\n2\n3 4 5"), ("folk", "4 2 6"), ("spread", "4"), ("nested", "yes"),
            ("join 2 1", ""), ("plan", "0 1\n2 3 4 5"), ("trade 1 3", ""), ("plan", "0 3\n1 2 4 5"), ("split", "0 1"),
            ("nested", "no"), ("undo", ""), ("undo", ""), ("redo", ""), ("plan", "0 1\n2 3 4 5"), ("split", "0"),
            ("give 2 0", ""), ("plan", "0 1 2\n3 4 5"), ("fewest 1", "cut none\n0 1 2 3 4 5"), ("fewest 6",
             "cut 0 1\n0\n1\n2\n3\n4\n5"), ("within 6 6", ""), ("could", ""), ("fewest 1", "none"), ("bounds", "6 6"),
            ("fewest 2", "cut none\n0 1 2\n3 4 5"), ("shires\n0 3 4 5\n2 1", ""), ("fewest 2", "cut 0\n0 1 2\n3 4 5"),
            ("shires\n0 3\n1 2 5 4", ""), ("fewest 2", "cut 1\n0 1 3\n2 4 5"), ("split", "0 1"),
        ):
            self.same(board.execute(command), answer)

    def test_by_name(self):
        board = Console()
        self.same(board.execute(command=LAND), "")

    def test_the_lot_of_part_in_any_sequence(self):
        for lot in ("1 0", "0 1"):
            board = told(LAND, WIDE, f"part 0 {lot}")
            self.same(board.execute("plan"), "0 1\n2\n3 4 5")

    def test_land_drops_desk_and_shires(self):
        board = told(LAND, WIDE, SHIRES)
        self.same(board.execute(OTHER), "")
        for command in (*ASKED, *ASKED_OF_SHIRES, *EDITS):
            self.raises(Refused, board.execute, command)
        self.same(board.execute("desk 0 9\n0 1 2"), "")
        self.same(board.execute("text"), OTHER[5:])
        for command in ASKED_OF_SHIRES:
            self.raises(Refused, board.execute, command)

    def test_the_same_land_drops_them_too(self):
        board = told(LAND, WIDE, SHIRES, LAND)
        self.raises(Refused, board.execute, "plan")
        board.execute(WIDE)
        self.raises(Refused, board.execute, "split")

    def test_desk_keeps_the_shires(self):
        board = told(LAND, SHIRES, DESK)
        self.same(board.execute("split"), "none")
        board.execute("desk 0 99\n0 3\n1 4\n2 5")
        self.same(board.execute("split"), "0 1")
        self.raises(Refused, board.execute, "undo")

    def test_shires_keep_the_desk(self):
        board = told(LAND, DESK, "give 2 1", "give 2 0", "undo", SHIRES)
        self.same([board.execute(command) for command in ("plan", "split", "redo", "split")],
                  ["0 1\n2 3 4 5", "0", "", "none"])
        board.execute("shires\n0\n1\n2\n3\n4\n5")
        self.same(board.execute("nested"), "no")

    def test_within_has_nothing_to_take_back(self):
        board = told(LAND, DESK, "give 2 1", "within 4 8")
        self.same(board.execute("plan"), "0 1\n2 3 4 5")
        self.raises(Refused, board.execute, "undo")
        self.raises(Refused, board.execute, "redo")

    def test_a_land_without_a_border(self):
        board = told("land\nfolk 0 0", "desk 0 0\n0\n1", "shires\n0\n1")
        self.same([board.execute(command) for command in ("text", "plan", "could", "cut", "folk", "fewest 1",
                                                          "fewest 2")],
                  ["folk 0 0", "0\n1", "", "0", "0 0", "none", "cut none\n0\n1"])


class CommandTest(Asking):
    """Each command, right and made none."""

    def test_each_change_of_a_command(self):
        kinds = {}
        board = told(LAND, WIDE, SHIRES)
        for command in (*ASKED, *ASKED_OF_SHIRES, *EDITS, DESK, SHIRES, OTHER):
            for text in judge_texts.changed(command, SIGNS):
                self.compared(board, text, kinds)
        self.assertGreater(kinds["InvalidCommand"], 3000)
        for kind in ("", "Refused", "Twice", "InvalidLand", "InvalidPlan", "InvalidCount", "InvalidPlace",
                     "InvalidLot"):
            self.assertGreater(kinds[kind], 2)

    def compared(self, board, command, kinds):
        one, plain = copy.deepcopy(board), PlainConsole()
        for line in (LAND, WIDE, SHIRES):
            plain.execute(line)
        before = state_of(board)
        answer = ask(one, command)
        self.same(answer, ask(plain, command))
        kind = answer[0] if type(answer) is tuple else ""
        kinds[kind] = kinds.get(kind, 0) + 1
        if kind:
            self.same(state_of(one), before)

    def test_where_no_command_goes_on(self):
        board = told(LAND, WIDE, SHIRES)
        for command, index in (
            ("", 0), ("x", 0), ("P", 0), (" plan", 0), ("\nplan", 0), ("pla", 3), ("plam", 3), ("plan ", 4),
            ("plan\n", 4), ("plans", 4), ("par", 3), ("part", 4), ("part ", 5), ("part 1", 6), ("part 1 ", 7),
            ("part  1 2", 5), ("part 1\t2", 6), ("part 1 2\n", 8), ("part 1 02", 8), ("fo", 2), ("folk", None),
            ("folks", 4), ("fe", 2), ("fewest", 6), ("fewest 2 2", 8), ("give 2", 6), ("give 2 1 0", 8),
            ("give 2  1", 7), ("give a 1", 5), ("give -1 0", 5), ("give 1234567890123 1", 17), ("undo 1", 4),
            ("undo\n", 4), ("c", 1), ("cu", 2), ("co", 2), ("cx", 1), ("w", 1), ("wi", 2), ("within 1", 8),
            ("ward", 4), ("s", 1), ("sp", 2), ("sh", 2), ("sx", 1), ("spx", 2), ("t", 1), ("te", 2), ("tr", 2),
            ("land", 4), ("land\n", 5), ("land folk 1 1", 4), ("land\nfolk", 9), ("land\nfolk 1 01", 13),
            ("land\nfolk 1 1\n0: 1\n", 19), ("land\n\nfolk 1 1", 5), ("desk", 4), ("desk 1", 6), ("desk 1 2", 8),
            ("desk 1 2 3\n0", 8), ("desk 1 2\n", 9), ("desk 1 2\n0  1", 11), ("desk 1 2\n0 1\n", 13), ("desk\n0", 4),
            ("shires", 6), ("shires\n", 7), ("shires 1\n0", 6), ("shires\n0 1 x", 11), ("shires\n00", 8),
        ):
            wanted = judge_texts.form_index(judge_texts.COMMAND, judge_texts.COMMANDS, command)
            self.assertEqual(wanted, index)
            if index is not None:
                self.raises(InvalidCommand, board.execute, command, field="index", worth=index)
                self.raises(InvalidCommand, Console().execute, command, field="index", worth=index)

    def test_no_string(self):
        board = told(LAND, WIDE)
        for value in samples.ANY_VALUES:
            if type(value) is not str:
                self.raises(InvalidCommand, board.execute, value, field="index", worth=0)
        for value in (b"plan", ["plan"], ("plan",)):
            self.raises(InvalidCommand, board.execute, value, field="index", worth=0)

    def test_long_commands(self):
        board = told(LAND, WIDE)
        began = time.monotonic()
        for command, index in (("a" * 20000, 0), ("plan" * 5000, 4), ("part" + " 1" * 9997 + " ", 19999),
                               ("land\nfolk" + " 1" * 9995 + "x", 19999), ("shires\n" + "0\n" * 9996, 19999)):
            self.raises(InvalidCommand, board.execute, command, field="index", worth=index)
        self.raises(Twice, board.execute, "part" + " 1" * 9998, field="word", worth="1")
        self.raises(InvalidLand, board.execute, "land\nfolk" + " 1" * 9995, field="place", worth=(0,))
        self.assertLess(time.monotonic() - began, SECONDS)


class SequenceTest(Asking):
    """The sequence of the errors."""

    def test_invalid_command_ahead_of_refused(self):
        board = Console()
        for command in ("plan ", "give 1", "desk 1 2\n0  1", "shires\n", "part 0 0 00", "fewest"):
            self.assertEqual(ask(board, command)[0], "InvalidCommand")

    def test_refused_of_what_is_not_there_yet(self):
        board = Console()
        for command in (DESK, SHIRES, "desk 9 1\n0 0", "shires\n0 0", "part 0 0 0", *ASKED, *ASKED_OF_SHIRES, *EDITS):
            self.raises(Refused, board.execute, command)
        board.execute(LAND)
        for command in ("part 0 0 0", "give 99 99", "ward 99", "within 9 8", *ASKED, *ASKED_OF_SHIRES, *EDITS):
            self.raises(Refused, board.execute, command)
        board.execute(SHIRES)
        for command in ("part 0 0 0", *ASKED, *ASKED_OF_SHIRES, *EDITS):
            self.raises(Refused, board.execute, command)
        board = told(LAND, WIDE)
        for command in (*ASKED_OF_SHIRES, "fewest 0", "fewest 7"):
            self.raises(Refused, board.execute, command)
        for command in ASKED:
            board.execute(command)

    def test_twice_ahead_of_what_else_is_wrong(self):
        board = told(LAND, WIDE, SHIRES)
        for command, word in (
            ("land\nfolk 1\n0: 1\n1: 0", "0-1"), ("desk 9 8\n0 0", "0"), ("desk 9 8\n0 12 3\n4 12 3", "12"),
            ("shires\n7\n7", "7"), ("part 9 9 8 8", "8"), ("part 0 1 2 1 2", "1"), ("part 0 0 0", "0"),
        ):
            self.raises(Twice, board.execute, command, field="word", worth=word)
        # The number of the ward may stand among the places.
        self.same(board.execute("part 1 4 5"), "")

    def test_a_land_and_plans_of_texts(self):
        board = told(LAND, WIDE, SHIRES)
        self.raises(InvalidLand, board.execute, "land\nfolk 1", field="place", worth=(0,))
        self.raises(InvalidLand, board.execute, "land\nfolk 1 1\n0: 2", field="place", worth=(1, 0))
        self.raises(InvalidPlan, board.execute, "shires\n0 2\n1", field="index", worth=0)
        self.raises(InvalidPlan, board.execute, "desk 9 8\n0 1\n2", field="index", worth=2)
        self.raises(InvalidPlan, board.execute, "desk 0 1\n0 1 9", field="index", worth=0)

    def test_what_the_call_raises(self):
        board = told(LAND, DESK, SHIRES)
        before = state_of(board)
        for error, command in (
            (InvalidBounds, "desk 9 8\n0 1 2\n3 4 5"), (Refused, "desk 7 8\n0 1 2\n3 4 5"), (InvalidPlace, "give 6 9"),
            (InvalidCount, "give 0 2"), (Refused, "give 0 0"), (Refused, "give 1 1"), (InvalidPlace, "trade 0 0"),
            (InvalidPlace, "trade 0 12"), (Refused, "trade 0 1"), (InvalidCount, "join 2 0"),
            (InvalidCount, "join 0 2"), (Refused, "join 1 1"), (Refused, "join 0 1"), (InvalidCount, "part 2 9"),
            (InvalidLot, "part 0 9"),
            (Refused, "part 0 3"), (Refused, "part 0 0 1 2"), (Refused, "part 0 0"), (Refused, "undo"),
            (Refused, "redo"), (InvalidBounds, "within 9 8"), (Refused, "within 7 8"), (InvalidPlace, "ward 6"),
            (InvalidCount, "fewest 0"), (InvalidCount, "fewest 7"), (InvalidCount, "fewest 999999999999"),
        ):
            self.raises(error, board.execute, command)
            self.same(state_of(board), before)

    def test_a_refused_command_changes_nothing(self):
        board = told(LAND, DESK, "give 2 1", "give 2 0", "undo", SHIRES)
        before = state_of(board)
        for command in ("land\nfolk 1", "land\nfolk 1 1\n0: 1 1", "land", "desk 9 8\n0 1 2\n3 4 5", "desk 4 8\n0 1 2",
                        "shires\n0 0", "shires\n0 2\n1 3 4 5", "within 5 8", "give 0 1", "part 0 0 0", "nope", None):
            self.assertIs(type(ask(board, command)), tuple)
            self.same(state_of(board), before)


class LongRowsTest(Asking):
    """Rows of commands against a plain console, and Fact U."""

    def drawn_command(self, draw):
        number = lambda: str(draw.choice((0, 0, 1, 1, 2, 2, 3, 4, 5, 5, 6, 12)))
        word = draw.choice(("give", "give", "trade", "join", "part", "part", "undo", "redo", "within", "ward", "fewest",
                            "plan", "could", "split", "nested", "spread", "cut", "folk", "bounds", "text", "texted"))
        if word == "texted":
            return draw.choice((LAND, OTHER, DESK, WIDE, WIDE, SHIRES, SHIRES, "desk 0 9\n0 1\n2", "shires\n0 1\n2",
                                "desk 0 99\n0 1 4\n2 5\n3", "shires\n0 3\n1 4\n5 2", "shires\n0 0", "land\nfolk 7"))
        many = {"give": 2, "trade": 2, "join": 2, "within": 2, "ward": 1, "fewest": 1}.get(word, 0)
        if word == "part":
            many = draw.randint(2, 4)
        if word == "within":
            return f"within {draw.choice((0, 2, 3))} {draw.choice((1, 6, 8, 12, 99))}"
        return " ".join([word, *[number() for _ in range(many)]])

    def test_long_rows(self):
        kinds = {}
        for seed in range(25):
            draw = random.Random(seed)
            board, plain = Console(), PlainConsole()
            for command in (LAND, WIDE, SHIRES)[:draw.randint(0, 3)]:
                self.same(ask(board, command), ask(plain, command))
            for _ in range(100):
                command = self.drawn_command(draw)
                answer = ask(board, command)
                self.same(answer, ask(plain, command))
                kind = answer[0] if type(answer) is tuple else command.split()[0]
                kinds[kind] = kinds.get(kind, 0) + 1
            self.same(state_of(board), state_of(plain))
        for kind in ("give", "join", "part", "undo", "redo", "within", "fewest", "Refused", "Twice", "InvalidCount",
                     "InvalidPlace", "InvalidLot", "InvalidPlan", "InvalidLand"):
            self.assertGreater(kinds[kind], 3)

    def test_fact_u(self):
        for seed in range(15):
            draw = random.Random(seed)
            shires = draw.choice((SHIRES, "shires\n4 1 0\n5 2\n3"))
            board = told(LAND, WIDE, shires)
            for _ in range(25):
                self.compared(board, shires)
                while True:
                    command = self.drawn_command(draw)
                    if command.split()[0] not in ("land", "shires"):
                        break
                ask(board, command)

    def compared(self, board, shires):
        """A second console that is told what the first one tells answers alike."""
        desk = f"desk {board.execute('bounds')}\n{board.execute('plan')}"
        other = told("land\n" + board.execute("text"), desk, shires)
        for command in (*ASKED, *ASKED_OF_SHIRES, "part 0 0 1", "give 0 1", "trade 0 5", "give 4 0", "within 2 9",
                        "could", "plan", "join 1 0", "plan"):
            one = copy.deepcopy(board)
            self.same(ask(one, command), ask(other, command))
            board = one

    def test_two_consoles(self):
        one, other = told(LAND, WIDE), told(LAND, WIDE)
        one.execute("give 2 1")
        self.same(other.execute("plan"), "0 1 2\n3 4 5")
        self.raises(Refused, other.execute, "undo")
        one.execute(SHIRES)
        self.raises(Refused, other.execute, "split")
        self.raises(Refused, Console().execute, "text")

    def test_equal_histories_answer_alike(self):
        for seed in range(4):
            rows = []
            for _ in range(2):
                draw, board = random.Random(seed), told(LAND, WIDE, SHIRES)
                rows.append([ask(board, self.drawn_command(draw)) for _ in range(60)])
            self.same(rows[0], rows[1])

    def test_twelve_places(self):
        for land in samples.TWELVES:
            began = time.monotonic()
            alone = "\n".join(map(str, range(12)))
            board = told("land\n" + judge_texts.land_text(land), "desk 0 999999999999\n" + alone, "shires\n" + alone)
            self.same(board.execute("text"), judge_texts.land_text(land))
            for command in (*ASKED, "split", "nested", "join 0 1", "could", "undo"):
                ask(board, command)
            self.assertLess(time.monotonic() - began, SECONDS)
            self.same(board.execute("plan"), alone)


if __name__ == "__main__":
    unittest.main()
