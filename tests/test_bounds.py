"""[10] as far as the interface's heading "Stage 8" says it of refundtrees/bounds.py: give-backs that are bounded."""

import unittest

from refundtrees.bounds import fewest_gives, is_open
from refundtrees.books import Book
from refundtrees.errors import NoBuild, NoNumber
import tests_again as again
from tests_kit import (
    all_builds, flat, full_book, knot_book, no_builds, random_books, trap_book, twelve_book, values_but_numbers,
)


class FewestGivesTest(unittest.TestCase):
    def test_none_needed(self):
        book = Book(flat(4), 3, reset=0)
        self.assertEqual([fewest_gives(book, (), build) for build in [(), ("a",), ("b", "c", "d")]], [0, 0, 0])
        self.assertEqual(fewest_gives(book, ("a", "b"), ("a", "b")), 0)

    def test_as_many_as_needed(self):
        skills = [("a", 1), ("b", 1), ("c", 1), ("d", 1), ("e", 2), ("f", 2)]
        book = Book(skills, 3, needs=[(2, 2)], reset=0)
        self.assertEqual(fewest_gives(book, ("a", "b", "e"), ("a", "c", "e")), 2)
        self.assertEqual(fewest_gives(book.changed(points=4), ("a", "b", "e"), ("a", "c", "e")), 1)
        self.assertEqual(fewest_gives(book, ("a", "b", "e"), ()), 3)

    def test_gives_count_and_not_prices(self):
        book = Book(flat(3), 2, prices=[("a", 99), ("b", 0)], wants=[("any", "c", ("b",))])
        self.assertEqual(fewest_gives(book, ("a", "b"), ("b", "c")), 1)

    def test_a_skill_that_is_taken_only_on_the_way(self):
        self.assertEqual(fewest_gives(knot_book(), (), ("a", "b")), 1)

    def test_no_way(self):
        for reset in (None, 0):
            self.assertIsNone(fewest_gives(trap_book(reset), (), ("a", "b")))
            self.assertIsNone(fewest_gives(trap_book(reset), ("a", "b"), ()))

    def test_against_the_document(self):
        for book in random_books(60):
            table = again.all_moves(book)
            for other in table:
                least = again.least_to(table, other, again.give_backs)
                for one in table:
                    self.assertEqual(fewest_gives(book, one, other), least.get(one))

    def test_a_book_of_twelve(self):
        book = twelve_book()
        table = again.all_moves(book)
        builds = list(table)
        for other in builds[::60]:
            least = again.least_to(table, other, again.give_backs)
            for one in builds[::50]:
                self.assertEqual(fewest_gives(book, one, other), least.get(one))


class IsOpenTest(unittest.TestCase):
    def test_as_many_as_needed_and_one_less(self):
        for book in random_books(40):
            table = again.all_moves(book)
            for other in table:
                for one in table:
                    fewest = fewest_gives(book, one, other)
                    for many in (0, 1, 2, 3, 10**30):
                        self.assertIs(is_open(book, one, other, many), fewest is not None and fewest <= many)

    def test_none_at_all(self):
        book = Book(flat(3), 2)
        self.assertIs(is_open(book, (), ("a", "b"), 0), True)
        self.assertIs(is_open(book, ("c",), ("a", "b"), 0), False)
        self.assertIs(is_open(book, ("c",), ("a", "b"), 1), True)

    def test_where_no_way_leads(self):
        for many in (0, 12, 10**30):
            self.assertIs(is_open(trap_book(0), ("a", "b"), (), many), False)

    def test_what_is_no_number_from_none_on(self):
        for value in values_but_numbers() + [-1, -10**30]:
            for other in ((), ("a",)):
                with self.assertRaises(NoNumber) as caught:
                    is_open(full_book(), ("a",), other, value)
                self.assertIs(caught.exception.value, value)
            with self.assertRaises(NoNumber):
                is_open(trap_book(), (), ("a", "b"), value)


class NoBuildTest(unittest.TestCase):
    def test_ahead_of_no_number(self):
        book = full_book()
        bad = no_builds("abcd") + [build for build in all_builds("abcd") if not again.holds(book, build)]
        for value in bad:
            for one, other in ((value, ()), ((), value), (value, value), (value, None)):
                calls = [lambda: fewest_gives(book, one, other)]
                calls += [lambda many=many: is_open(book, one, other, many) for many in (1, -1, None)]
                for call in calls:
                    with self.assertRaises(NoBuild) as caught:
                        call()
                    self.assertIs(caught.exception.build, value)


class NamesTest(unittest.TestCase):
    def test_arguments_by_name(self):
        self.assertEqual(fewest_gives(book=full_book(), one=("a",), other=("b",)), 1)
        self.assertIs(is_open(book=full_book(), one=("a",), other=("b",), many=1), True)
        self.assertIs(is_open(many=0, other=("b",), one=("a",), book=full_book()), False)


if __name__ == "__main__":
    unittest.main()
