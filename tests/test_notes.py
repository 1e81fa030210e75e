"""[15] and what the interface's heading "Stage 15" says of refundtrees/notes.py: books and builds as rows of words."""

import unittest

from refundtrees.books import Book
from refundtrees.builds import Build
from refundtrees.errors import NoBook, NoBuild, NoNote
from refundtrees.notes import read_book, read_build, write_book, write_build
from tests_kit import (
    FULL, NAMES, all_builds, flat, full_book, odd_values, random_books, twelve_book, twelve_plain_book,
)

FULL_ROWS = [
    "points 5", "skill a 1", "skill b 1", "skill c 2", "skill d 3", "need 2 1", "need 4 3", "all c a b", "any d c a",
    "count d 2 a b c", "bar b a", "bar c d", "gives d 3", "gives a 1", "price c 0", "price a 99", "reset 7",
]


def text_of(rows):
    return "".join(row + "\n" for row in rows)


class NotesTestCase(unittest.TestCase):
    def refused(self, text, line):
        for call in (lambda: read_book(text), lambda: read_book(text=text)):
            with self.subTest(text=text), self.assertRaises(NoNote) as caught:
                call()
            self.assertEqual(caught.exception.line, line)
            self.assertIs(type(caught.exception.line), type(line))
        return caught.exception


class WriteBookTest(NotesTestCase):
    def test_the_least_book(self):
        self.assertEqual(write_book(Book([("a", 1)], 0)), "points 0\nskill a 1\n")

    def test_each_kind_of_row_alone(self):
        rows = {
            "needs": ([(3, 12)], "need 3 12\n"),
            "wants": ([("all", "b", ("c", "a"))], "all b c a\n"),
            "bars": ([("c", "a")], "bar c a\n"),
            "gives": ([("b", 3)], "gives b 3\n"),
            "prices": ([("b", 99)], "price b 99\n"),
            "reset": (0, "reset 0\n"),
        }
        for part, (value, row) in rows.items():
            book = Book([("a", 1), ("b", 2), ("c", 4)], 12, **{part: value})
            self.assertEqual(write_book(book), "points 12\nskill a 1\nskill b 2\nskill c 4\n" + row)
            self.assertEqual(read_book(write_book(book)), book)

    def test_wants_of_each_kind_in_their_order(self):
        wants = [("count", "c", ("b", "a"), 2), ("any", "a", ("b",)), ("all", "b", ("c",)), ("any", "a", ("b",))]
        book = Book(flat(3), 1, wants=wants)
        self.assertEqual(write_book(book).split("\n")[4:], ["count c 2 b a", "any a b", "all b c", "any a b", ""])
        self.assertEqual(read_book(write_book(book)), book)

    def test_all_together(self):
        self.assertEqual(write_book(full_book()), text_of(FULL_ROWS))
        self.assertEqual(read_book(text_of(FULL_ROWS)), full_book())

    def test_rows_that_tell_what_is_so_anyway_stay(self):
        book = Book(flat(2), 1, needs=[(2, 0)], prices=[("a", 1)])
        self.assertEqual(write_book(book), "points 1\nskill a 1\nskill b 1\nneed 2 0\nprice a 1\n")
        self.assertEqual(read_book(write_book(book)), book)

    def test_skills_of_the_names_of_rows(self):
        names = ["points", "skill", "need", "all", "any", "count", "bar", "gives", "price", "reset"]
        book = Book([(name, 1) for name in names], 3, bars=[("all", "any")],
                    wants=[("count", "count", ("all", "any"), 1)], prices=[("price", 3)], gives=[("gives", 1)], reset=2)
        self.assertEqual(read_book(write_book(book)), book)

    def test_what_is_no_book(self):
        for value in odd_values() + ["", "points 1\nskill a 1\n", 0, [], (), Build(full_book()), FULL]:
            for call in (lambda: write_book(value), lambda: write_book(book=value)):
                with self.assertRaises(NoNote) as caught:
                    call()
                self.assertIsNone(caught.exception.line)


class ReadBookTest(NotesTestCase):
    def test_what_is_written_is_read_back_as_equal(self):
        books = random_books(300) + [twelve_book(), twelve_plain_book(), full_book()]
        for book in books:
            text = write_book(book)
            self.assertEqual(read_book(text), book)
            self.assertEqual(write_book(read_book(text)), text)

    def test_the_greatest_book(self):
        wants = [("count", name, tuple(other for other in NAMES if other != name), 11) for name in NAMES]
        names = {name: name * 8 for name in NAMES}
        wants = [(kind, names[skill], tuple(names[one] for one in others), many) for kind, skill, others, many in wants]
        skills = list(names.values())
        book = Book([(skill, 4) for skill in skills], 12, needs=[(2, 12), (3, 12), (4, 12)], wants=wants,
                    bars=[(skills[0], skill) for skill in skills[1:7]], gives=[(skill, 3) for skill in skills],
                    prices=[(skill, 99) for skill in skills], reset=99)
        self.assertEqual(read_book(write_book(book)), book)

    def test_what_is_no_text(self):
        for value in odd_values() + [0, 1, [], (), ["points 1\n"], b"points 1\nskill a 1\n", full_book()]:
            self.refused(value, None)

    def test_no_line_feed_at_the_end(self):
        for text in ("", " ", "points 5", text_of(FULL_ROWS)[:-1], text_of(FULL_ROWS) + " ", "x\ny", "\n "):
            self.refused(text, None)

    def test_an_empty_row(self):
        self.refused("\n", 1)
        self.refused("\n\n", 1)
        for place in range(len(FULL_ROWS) + 1):
            self.refused(text_of(FULL_ROWS[:place] + [""] + FULL_ROWS[place:]), place + 1)

    def test_blanks_that_are_too_many(self):
        for place, row in enumerate(FULL_ROWS):
            bent = [" " + row, row + " ", row.replace(" ", "  ", 1), "  ".join(row.rsplit(" ", 1)), " "]
            for other in bent + [row.replace(" ", "\t", 1), row + "\r", row.replace(" ", "", 1)]:
                self.refused(text_of(FULL_ROWS[:place] + [other] + FULL_ROWS[place + 1:]), place + 1)

    def test_a_word_too_few_or_too_many(self):
        for place, row in enumerate(FULL_ROWS):
            bent = [row.rsplit(" ", 1)[0]] if row.split(" ")[0] not in ("all", "any", "count") else []
            bent += [row + " 1", row + " -", row.split(" ")[0], row.split(" ")[0] + " "]
            if row.split(" ")[0] not in ("all", "any", "count"):
                bent.append(row + " a")
            for other in bent:
                self.refused(text_of(FULL_ROWS[:place] + [other] + FULL_ROWS[place + 1:]), place + 1)

    def test_wants_of_no_names(self):
        for row in ("all c", "any c", "count c 1", "count c", "all", "count"):
            self.refused(text_of(FULL_ROWS[:7] + [row]), 8)

    def test_numbers_that_are_written_otherwise(self):
        numbers = ["01", "00", "+1", "-1", "1.0", "1_0", "0x1", "", "a", "one", "1a", "-", "1e1", "--1", "True", "None"]
        for number in numbers:
            for place, row in enumerate(FULL_ROWS):
                words = row.split(" ")
                for at, word in enumerate(words):
                    if word.isdigit():
                        bent = " ".join(words[:at] + [number] + words[at + 1:])
                        self.refused(text_of(FULL_ROWS[:place] + [bent] + FULL_ROWS[place + 1:]), place + 1)

    def test_signs_that_only_look_like_digits(self):
        for number in ("\u00b2", "\u0661", "1\u0661", "\uff11"):
            self.refused("points " + number + "\nskill a 1\n", 1)

    def test_words_that_are_none(self):
        for wrong in ("A", "a1", "abcdefghi", "1", "a-b", "-", "", "a.", "\u00e4"):
            for place, row in enumerate(FULL_ROWS):
                words = row.split(" ")
                for at, word in enumerate(words):
                    if not word.isdigit():
                        bent = " ".join(words[:at] + [wrong] + words[at + 1:])
                        self.refused(text_of(FULL_ROWS[:place] + [bent] + FULL_ROWS[place + 1:]), place + 1)

    def test_rows_of_no_kind(self):
        for row in ("needs 2 1", "Need 2 1", "wants a b", "gives", "x", "#", "price", "point 5", "build a", "-"):
            for place in range(len(FULL_ROWS) + 1):
                self.refused(text_of(FULL_ROWS[:place] + [row] + FULL_ROWS[place:]), place + 1)

    def test_rows_of_points_and_skills_have_to_be_there(self):
        self.refused("points 5\n", 2)
        self.refused("skill a 1\n", 1)
        self.refused(text_of(FULL_ROWS[1:]), 1)
        self.refused(text_of(FULL_ROWS[:1] + FULL_ROWS[5:]), 2)
        self.refused("points 5\nreset 1\n", 2)
        self.refused("reset 1\n", 1)
        self.refused("points 5\n\n", 2)

    def test_one_row_of_points_and_one_reset_at_the_most(self):
        self.refused("points 5\npoints 5\nskill a 1\n", 2)
        self.refused("points 5\nskill a 1\npoints 5\n", 3)
        self.refused("points 5\nskill a 1\nreset 5\nreset 5\n", 4)
        self.refused(text_of(FULL_ROWS + FULL_ROWS[-1:]), 18)

    def test_rows_out_of_order(self):
        places = [0] + [1] * 4 + [2] * 2 + [3] * 3 + [4] * 2 + [5] * 2 + [6] * 2 + [7]
        for one in range(len(FULL_ROWS)):
            for other in range(one + 1, len(FULL_ROWS)):
                if places[one] < places[other]:
                    rows = list(FULL_ROWS)
                    rows[one], rows[other] = rows[other], rows[one]
                    kept = [places[FULL_ROWS.index(row)] for row in rows]
                    self.refused(text_of(rows), self.first_out_of_order(kept))

    def first_out_of_order(self, places):
        """The number of the first row that stands behind one of a later place, or in the place of points or skills."""
        for number, place in enumerate(places, 1):
            if number < 3 and place != number - 1 or number > 1 and place < places[number - 2]:
                return number
            if number > 1 and place == places[number - 2] and place in (0, 7):
                return number
        return None

    def test_the_first_of_several_rows(self):
        rows = list(FULL_ROWS)
        rows[3], rows[8], rows[12] = "skill c", "any d", "points 5"
        self.refused(text_of(rows), 4)
        rows[3] = FULL_ROWS[3]
        self.refused(text_of(rows), 9)
        rows[8] = FULL_ROWS[8]
        self.refused(text_of(rows), 13)

    def test_rows_that_are_right_and_make_no_book(self):
        bent = {
            "points": ["points 13", "points 99999"], "skills": ["skill a 0", "skill a 5", "skill a 2", "skill b 1"],
            "needs": ["need 1 1", "need 5 1", "need 2 13", "need 4 1"],
            "wants": ["all x a", "all c x", "any c c", "all c a a", "count c 3 a b", "count c 0 a"],
            "bars": ["bar a a", "bar c d", "bar d c", "bar a x"], "gives": ["gives x 1", "gives d 0", "gives d 4", "gives a 1"],
            "prices": ["price x 1", "price c 100", "price a 1"], "reset": ["reset 100"],
        }
        starts = {"points": 0, "skills": 1, "needs": 5, "wants": 7, "bars": 10, "gives": 12, "prices": 14, "reset": 16}
        for part, rows in bent.items():
            for row in rows:
                place = starts[part]
                error = self.refused(text_of(FULL_ROWS[:place] + [row] + FULL_ROWS[place + 1:]), 0)
                self.assertIs(type(error.__cause__), NoBook)
                self.assertEqual(error.__cause__.part, part)

    def test_rows_that_are_right_and_too_many(self):
        skills = [f"skill {name} 1" for name in NAMES]
        self.refused(text_of(["points 1", *skills, "skill m 1"]), 0)
        self.refused(text_of(["points 1", *skills] + ["any a b"] * 13), 0)
        self.refused(text_of(["points 1", *skills] + [f"bar a {name}" for name in "bcdefgh"]), 0)
        self.refused(text_of(["points 1", *skills, "need 3 1", "need 2 1"]), 0)
        self.refused(text_of(["points 1", *skills, "need 2 1", "need 2 1"]), 0)

    def test_a_row_that_is_wrong_goes_ahead_of_no_book(self):
        self.refused("points 13\nskill a 1\nneed 1 1\nx\n", 4)
        self.refused("points 13\n", 2)

    def test_numbers_of_many_digits(self):
        for many in (59, 60, 61, 5000, 15000):
            self.refused("points 1" + "0" * many + "\nskill a 1\n", 0)


class WriteBuildTest(unittest.TestCase):
    def test_blanks_between(self):
        self.assertEqual([write_build(build) for build in [(), ("a",), ("a", "b"), ("hook", "climb", "rope")]],
                         ["-", "a", "a b", "hook climb rope"])
        self.assertEqual(write_build(build=("a", "b")), "a b")

    def test_any_tuple_of_words(self):
        self.assertEqual(write_build(("z", "a", "z", "abcdefgh")), "z a z abcdefgh")

    def test_what_is_no_tuple_of_words(self):
        values = ["", "-", "a b", 0, 1, [], ["a"], ("a", ""), ("",), ("a b",), ("abcdefghi",), ("-",), ("A",), ("a1",),
                  (b"a",), (("a",),), (["a"],), ((),), {"a": 1}, Build(full_book()), Build(full_book(), ("a",))]
        for value in values + odd_values() + [("a", value) for value in odd_values() + [0, 1]]:
            for call in (lambda: write_build(value), lambda: write_build(build=value)):
                with self.assertRaises(NoBuild) as caught:
                    call()
                self.assertIs(caught.exception.build, value)


class ReadBuildTest(unittest.TestCase):
    def test_what_is_written_is_read_back_as_equal(self):
        for book in (full_book(), Book([("hook", 1), ("climb", 1), ("rope", 2)], 0)):
            for build in all_builds(book.names()):
                self.assertEqual(read_build(book, write_build(build)), build)
                self.assertIs(type(read_build(book, write_build(build))), tuple)

    def test_it_need_not_hold(self):
        self.assertEqual(read_build(Book(flat(2), 0), "a b"), ("a", "b"))

    def test_the_empty_build(self):
        self.assertEqual(read_build(full_book(), "-"), ())
        self.assertEqual(read_build(book=full_book(), text="-"), ())

    def test_texts_that_write_none(self):
        for text in ["", " ", "x", "A", "b a", "a a", "a  b", " a", "a ", "a b ", "a,b", "a\tb", "a\n", "\n", "--", "- ",
                     " -", "- a", "a -", "-\n", "ab", "a b c d x", "a c b", "a b c d a"]:
            self.refused(text)

    def test_texts_bent_at_a_word(self):
        for build in all_builds("abcd"):
            words = write_build(build).split(" ")
            for at in range(len(words)):
                for wrong in ("x", "", "A", words[at] * 2, words[at] + " " + words[at], "1"):
                    self.refused(" ".join(words[:at] + [wrong] + words[at + 1:]))

    def test_what_is_no_text(self):
        for value in odd_values() + [0, 1, (), ("a",), ["a"], b"a", b"-", full_book(), Build(full_book())]:
            self.refused(value)

    def refused(self, text):
        for call in (lambda: read_build(full_book(), text), lambda: read_build(book=full_book(), text=text)):
            with self.subTest(text=text), self.assertRaises(NoNote) as caught:
                call()
            self.assertIs(caught.exception.line, text)


class NamesTest(unittest.TestCase):
    def test_arguments_by_name(self):
        self.assertEqual(read_book(text=write_book(book=full_book())), full_book())
        self.assertEqual(read_build(text=write_build(build=("a", "c")), book=full_book()), ("a", "c"))


if __name__ == "__main__":
    unittest.main()
