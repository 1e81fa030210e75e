"""The class Console of the interface's heading "Stage 15": lines and their answers."""

import random
import unittest

from refundtrees.books import Book
from refundtrees.console import Console
from refundtrees.errors import NoNote, TreeError
from refundtrees.live import Player
from refundtrees.notes import write_book, write_build
from refundtrees.prices import least_price
from tests_kit import NAMES, flat, odd_values, random_books, trap_book, twelve_book

ROWS = ["points 3", "skill a 1", "skill b 1", "skill c 2", "need 2 1", "price c 5", "reset 4"]

# Each line that asks for a player, of a right form.
PLAYED = ["take a", "give a", "take zzz", "reset", "undo", "build", "asks", "spent", "price a", "price -", "price b a",
          "price a a", "price zzz"]


def run_all(console, lines):
    return [console.run(line) for line in lines]


def console_of(rows=ROWS, lines=()):
    """A console that has begun with some rows, behind some lines."""
    console = Console()
    run_all(console, ["+" + row for row in rows] + ["begin"])
    run_all(console, lines)
    return console


def rows_of(book):
    return write_book(book).split("\n")[:-1]


class ConsoleTestCase(unittest.TestCase):
    def talk(self, console, *pairs):
        for line, answer in pairs:
            self.assertEqual(console.run(line), answer, line)

    def told(self, console):
        """What a console tells of its player."""
        return run_all(console, ["build", "asks", "spent", "price -", "price a"])

    def unchanged(self, console, line, answer):
        """A line is answered so, and changes neither what is told nor what can be undone, nor the kept rows."""
        ahead = self.told(console)
        self.assertEqual(console.run(line), answer, line)
        self.assertEqual(self.told(console), ahead, line)


class NoPlayerTest(ConsoleTestCase):
    def test_at_first_there_is_no_text(self):
        self.talk(Console(), ("begin", "error"), ("build", "error"), ("clear", "ok"), ("begin", "error"))

    def test_lines_that_ask_for_a_player(self):
        for console in (Console(), console_of(lines=["clear"])):
            for line in PLAYED:
                self.talk(console, (line, "error"))
        kept = Console()
        run_all(kept, ["+" + row for row in ROWS])
        for line in PLAYED:
            self.talk(kept, (line, "error"))
        self.talk(kept, ("begin", "ok"), ("build", "-"))

    def test_lines_of_no_form_are_unknown_without_a_player_too(self):
        for line in ("", "take", "take A", "price", "build a", "Clear", "begin "):
            self.talk(Console(), (line, "unknown"))


class RowsTest(ConsoleTestCase):
    def test_a_row_is_put_behind_the_kept_ones(self):
        console = Console()
        self.talk(console, *[("+" + row, "ok") for row in ROWS], ("begin", "ok"), ("asks", "take-a take-b"))

    def test_rows_that_make_no_book(self):
        for rows in ([], ["points 3"], ["skill a 1", "points 3"], ["points 13", "skill a 1"], ["points 3", "skill a 0"],
                     ["points 3", "skill a 1", ""], ["", "points 3", "skill a 1"], ["points  3", "skill a 1"],
                     ["points 3", "skill a 1", "skill a 1"], ["points 3", "skill a 1 "], ["what"], [""], ["begin"],
                     ["+points 3", "skill a 1"], ["points 03", "skill a 1"]):
            console = Console()
            self.talk(console, *[("+" + row, "ok") for row in rows], ("begin", "error"), ("build", "error"))

    def test_rows_of_no_form_are_kept_all_the_same(self):
        for row in ("", " ", "+", "what", "points", "Points 3", "skill a 1 2", "begin", "  x  ", "a" * 300):
            console = Console()
            run_all(console, ["+" + told for told in ROWS])
            self.talk(console, ("+" + row, "ok"), ("begin", "error"), ("clear", "ok"))
            run_all(console, ["+" + told for told in ROWS])
            self.talk(console, ("begin", "ok"))

    def test_rows_stay_behind_begin(self):
        console = console_of(ROWS[:-1])
        self.talk(console, ("take a", "ok"), ("reset", "error"), ("+reset 4", "ok"), ("build", "a"), ("reset", "error"),
                  ("begin", "ok"), ("build", "-"), ("take a", "ok"), ("reset", "ok"), ("spent", "4"))

    def test_begin_that_fails_leaves_the_player(self):
        console = console_of(lines=["take a"])
        self.talk(console, ("+what", "ok"), ("begin", "error"), ("build", "a"), ("undo", "ok"), ("build", "-"))

    def test_begin_makes_a_new_player(self):
        console = console_of(lines=["take a", "take c", "give c"])
        self.talk(console, ("spent", "5"), ("begin", "ok"), ("spent", "0"), ("build", "-"), ("undo", "error"))

    def test_clear_behind_begin(self):
        console = console_of(lines=["take a"])
        self.talk(console, ("clear", "ok"), ("build", "error"), ("begin", "error"), ("undo", "error"),
                  ("+points 1", "ok"), ("+skill x 1", "ok"), ("begin", "ok"), ("asks", "take-x"))

    def test_each_form_of_row(self):
        for book in random_books(60) + [twelve_book()]:
            console, player = console_of(rows_of(book)), Player(book)
            self.talk(console, ("asks", asks_of(player)), ("build", "-"), ("spent", "0"))


def asks_of(player):
    return " ".join("reset" if step == ("reset",) else f"{step[0]}-{step[1]}" for step in player.asks()) or "none"


class PlayedTest(ConsoleTestCase):
    def test_a_game(self):
        self.talk(console_of(), ("build", "-"), ("take c", "error"), ("take b", "ok"), ("take a", "ok"),
                  ("build", "a b"), ("asks", "take-c give-a give-b reset"), ("take c", "ok"), ("build", "a b c"),
                  ("asks", "give-a give-b give-c reset"), ("give c", "ok"), ("spent", "5"), ("give c", "error"),
                  ("undo", "ok"), ("spent", "0"), ("build", "a b c"), ("reset", "ok"), ("spent", "4"), ("build", "-"),
                  ("reset", "error"), ("undo", "ok"), ("undo", "ok"), ("build", "a b"), ("undo", "ok"), ("undo", "ok"),
                  ("build", "-"), ("undo", "error"), ("spent", "0"))

    def test_asks_none_and_with_a_reset(self):
        self.talk(console_of(["points 0", "skill a 1"]), ("asks", "none"))
        self.talk(console_of(["points 1", "skill a 1", "reset 0"]), ("asks", "take-a"), ("take a", "ok"),
                  ("asks", "give-a reset"), ("spent", "0"))
        trap = Book(flat(2), 2, wants=[("all", "a", ("b",)), ("all", "b", ("a",))])
        self.talk(console_of(rows_of(trap)), ("asks", "none"))

    def test_prices(self):
        console = console_of(lines=["take a", "take c"])
        self.talk(console, ("price a c", "0"), ("price c a", "0"), ("price a", "4"), ("price -", "4"), ("price b", "4"),
                  ("price a b", "4"), ("price c b a", "0"), ("price b c", "1"))
        dear = console_of([*ROWS[:-1], "reset 99"], ["take a", "take c"])
        self.talk(dear, ("price -", "6"), ("price a", "5"))
        never = console_of(rows_of(trap_book()), ["take c"])
        self.talk(never, ("price -", "1"), ("price a b", "never"), ("price b a", "never"), ("price c", "0"))

    def test_prices_of_no_build_that_holds(self):
        console = console_of(lines=["take a"])
        for line in ("price c", "price a a", "price x", "price a x", "price a b a", "price " + " ".join(NAMES),
                     "price " + " ".join(["a"] * 20), "price zzzzzzzz"):
            self.unchanged(console, line, "error")
        self.talk(console_of(["points 1", *ROWS[1:]]), ("price a b", "error"), ("price a", "0"))

    def test_prices_lead_from_the_build(self):
        console = console_of()
        self.talk(console, ("price a", "0"), ("take b", "ok"), ("price a", "1"), ("price -", "1"), ("build", "b"))

    def test_a_book_of_twelve(self):
        console, player = console_of(rows_of(twelve_book())), Player(twelve_book())
        for skill in ("a", "b", "c", "d", "f", "g", "x", "a", "k"):
            taken = f"take-{skill}" in asks_of(player).split(" ")
            self.talk(console, (f"take {skill}", "ok" if taken else "error"))
            if taken:
                player.take(skill)
            self.talk(console, ("asks", asks_of(player)), ("build", write_build(player.now())))
        told = least_price(twelve_book(), player.now(), ("a", "b", "d"))
        self.talk(console, ("price d b a", str(told)))

    def test_against_the_player(self):
        counts = {}
        for seed, book in enumerate(random_books(80)):
            dice = random.Random(seed)
            console, player = console_of(rows_of(book)), Player(book)
            for _ in range(15):
                skill = dice.choice([*book.names(), "x"])
                deeds = {f"take {skill}": lambda: player.take(skill), f"give {skill}": lambda: player.give(skill),
                         "reset": player.restart, "undo": player.undo}
                line = dice.choice(list(deeds))
                self.talk(console, (line, self.answer(deeds[line])), ("asks", asks_of(player)),
                          ("build", write_build(player.now())), ("spent", str(player.spent())))
                skills = dice.sample(book.names(), dice.randint(0, len(book)))
                self.talk(console, self.price(book, player, skills, counts))
        self.assertEqual(sorted(counts), ["error", "never", "number"])

    def answer(self, deed):
        try:
            deed()
        except TreeError:
            return "error"
        return "ok"

    def price(self, book, player, skills, counts):
        """A line that asks for a price, and its answer."""
        build = tuple(name for name in book.names() if name in skills)
        try:
            told = least_price(book, player.now(), build)
            answer = "never" if told is None else str(told)
        except TreeError:
            answer = "error"
        kind = "number" if answer.isdigit() else answer
        counts[kind] = counts.get(kind, 0) + 1
        return f"price {' '.join(skills) or '-'}", answer


class UnknownTest(ConsoleTestCase):
    def lines(self):
        """Lines of no form."""
        lines = ["", " ", "-", "what", "take", "give", "price", "Take a", "TAKE a", "take A", "take aB", "take a b",
                 "give a b", "take  a", "take a ", " take a", "take a1", "take -", "give -", "take abcdefghi",
                 "take a-b", "take-a", "takea", "price  a", "price a  b", "price a ", "price - a", "price a -",
                 "price - -", "price --", "price A", "price a 1", "price 1", "price abcdefghi", "price ", "take ",
                 "points 3", "skill a 1", "restart", "raise a", "now", "len", "quit", "help", "a", "spent.", "ask"]
        for word in ("reset", "undo", "build", "asks", "spent", "clear", "begin"):
            lines += [word + " ", " " + word, word + " a", word + " -", word.upper(), word.title(), word + word,
                      word[:-1], word + "\n", "\n" + word, word + "\n" + word]
        return lines + ["\n", "+\n", "+points 3\n", "+points\n3", "\n+a", "take a\n", "take\na", "price a\nb", " +a",
                        "price -\n", " "]

    def test_lines_of_no_form(self):
        for console in (console_of(lines=["take a"]), console_of()):
            for line in self.lines():
                self.unchanged(console, line, "unknown")
            self.talk(console, ("begin", "ok"), ("asks", "take-a take-b"))

    def test_they_leave_the_kept_rows(self):
        console = Console()
        for row in ROWS:
            for line in self.lines():
                self.talk(console, (line, "unknown"))
            self.talk(console, ("+" + row, "ok"))
        self.talk(console, ("begin", "ok"), ("take b", "ok"), ("asks", "take-a take-c give-b reset"))

    def test_errors_change_nothing(self):
        console = console_of(lines=["take a"])
        for line in ("take a", "take cx", "give b", "give zzz", "price c", "price a a", "take zzzzzzzz"):
            self.unchanged(console, line, "error")
        self.talk(console, ("undo", "ok"), ("undo", "error"), ("build", "-"), ("reset", "error"), ("undo", "error"))

    def test_what_is_no_text(self):
        for console in (Console(), console_of(lines=["take a"])):
            for value in odd_values() + [0, 1, [], (), ["build"], ("build",), b"build", NoNote]:
                ahead = self.told(console)
                for call in (lambda: console.run(value), lambda: console.run(line=value)):
                    with self.assertRaises(NoNote) as caught:
                        call()
                    self.assertIsNone(caught.exception.line)
                self.assertEqual(self.told(console), ahead)


class NamesTest(ConsoleTestCase):
    def test_arguments_by_name(self):
        console = Console()
        self.assertEqual(console.run(line="+points 1"), "ok")
        self.assertEqual(console.run(line="+skill a 1"), "ok")
        self.assertEqual([console.run(line=line) for line in ("begin", "take a", "build")], ["ok", "ok", "a"])

    def test_consoles_are_apart(self):
        one, other = console_of(), console_of()
        self.talk(one, ("take a", "ok"), ("clear", "ok"))
        self.talk(other, ("build", "-"), ("take b", "ok"), ("begin", "ok"))


if __name__ == "__main__":
    unittest.main()
