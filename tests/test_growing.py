"""[4], [5] and the interface's heading "Stage 4": looking down, plain and bare books, ground and growth."""

import itertools
import unittest

from refundtrees.books import Book
from refundtrees.errors import NoBuild
from refundtrees.growing import ground, growth, is_bare, is_grown, is_plain, looks_down
from refundtrees.reach import comes
import tests_again as again
from tests_kit import (
    NAMES, all_builds, flat, full_book, knot_book, no_builds, random_books, random_plain_book, twelve_book,
    twelve_plain_book,
)

DOWN = ("all", "c", ("a", "b"))


class KindsOfBooksTest(unittest.TestCase):
    def told(self, **parts):
        book = Book(flat(3), 3, **parts)
        answers = (looks_down(book), is_plain(book), is_bare(book))
        self.assertTrue(all(type(answer) is bool for answer in answers))
        return answers

    def test_bare(self):
        self.assertEqual(self.told(), (True, True, True))
        self.assertEqual(self.told(needs=[(2, 1)], prices=[("a", 4)], reset=0), (True, True, True))

    def test_plain(self):
        self.assertEqual(self.told(wants=[DOWN]), (True, True, False))
        self.assertEqual(self.told(wants=[DOWN, ("all", "b", ("a",))]), (True, True, False))

    def test_looking_down(self):
        self.assertEqual(self.told(wants=[("any", "c", ("a",))]), (True, False, False))
        self.assertEqual(self.told(wants=[DOWN, ("count", "c", ("a", "b"), 2)]), (True, False, False))
        self.assertEqual(self.told(bars=[("a", "b")]), (True, False, False))
        self.assertEqual(self.told(gives=[("a", 1)]), (True, False, False))
        self.assertEqual(self.told(wants=[DOWN], gives=[("c", 3)], bars=[("a", "b")]), (True, False, False))

    def test_looking_up(self):
        self.assertEqual(self.told(wants=[("all", "a", ("b",))]), (False, False, False))
        self.assertEqual(self.told(wants=[DOWN, ("all", "b", ("a", "c"))]), (False, False, False))
        self.assertEqual(self.told(wants=[("any", "b", ("c", "a"))]), (False, False, False))

    def test_the_order_is_that_of_the_book(self):
        book = Book([("b", 1), ("a", 1)], 2, wants=[("all", "a", ("b",))])
        self.assertEqual((looks_down(book), is_plain(book), is_bare(book)), (True, True, False))
        self.assertIs(looks_down(Book([("b", 1), ("a", 1)], 2, wants=[("all", "b", ("a",))])), False)


class GroundTest(unittest.TestCase):
    def test_one_after_another(self):
        book = Book([("a", 1), ("b", 1), ("c", 2), ("d", 3)], 4, needs=[(2, 2), (3, 3)], wants=[("all", "a", ("b",))])
        self.assertEqual(ground(book), ("a", "b", "c", "d"))
        self.assertEqual(ground(book.changed(needs=[(2, 2), (3, 4)])), ("a", "b", "c"))
        self.assertEqual(ground(book.changed(needs=[(2, 3)])), ("a", "b", "d"))

    def test_points_and_bars_are_left_aside(self):
        self.assertEqual(ground(Book(flat(3), 0, bars=[("a", "b"), ("b", "c")])), ("a", "b", "c"))

    def test_skills_that_want_one_another(self):
        self.assertEqual(ground(Book(flat(2), 2, wants=[("all", "a", ("b",)), ("all", "b", ("a",))])), ())
        self.assertEqual(ground(knot_book()), ("a", "b", "c"))

    def test_as_many_rounds_as_skills(self):
        wants = [("all", one, (other,)) for one, other in zip(NAMES, NAMES[1:])]
        self.assertEqual(ground(Book(flat(12), 0, wants=wants)), tuple(NAMES))
        self.assertEqual(ground(Book(flat(12), 0, wants=wants + [("any", "l", ("a",))])), ())

    def test_against_the_document(self):
        for book in random_books(150):
            taken, more = (), True
            while more:
                more = [skill for skill in book if skill not in taken and again.is_met(book, taken, skill)][:1]
                taken = tuple(skill for skill in book if skill in taken or skill in more)
            self.assertEqual(ground(book), taken)
            self.assertIs(type(ground(book)), tuple)

    def test_what_can_be_come_to_without_bars_and_gives(self):
        for book in random_books(150):
            book = book.changed(bars=(), gives=(), points=len(book))
            for build in again.good_builds(book):
                self.assertIs(comes(book, build), set(build) <= set(ground(book)))


class GrowthTest(unittest.TestCase):
    def test_the_empty_build(self):
        for book in (full_book(), Book(flat(1), 0)):
            self.assertEqual(growth(book, ()), [])
            self.assertIs(is_grown(book, ()), True)

    def test_the_least_order(self):
        book = Book(flat(4), 4, wants=[("all", "a", ("d",)), ("any", "b", ("a", "c"))])
        self.assertEqual(growth(book, ("a", "b", "c", "d")), ["c", "b", "d", "a"])
        self.assertEqual(growth(book, ("a", "b", "d")), ["d", "a", "b"])
        self.assertEqual(growth(book, ("c", "d")), ["c", "d"])

    def test_places_count_and_not_names(self):
        self.assertEqual(growth(Book([("z", 1), ("m", 1), ("a", 1)], 3), ("z", "m", "a")), ["z", "m", "a"])

    def test_builds_that_are_not_grown(self):
        self.assertIsNone(growth(knot_book(), ("a", "b")))
        self.assertIs(is_grown(knot_book(), ("a", "b")), False)
        self.assertEqual(growth(knot_book(), ("a", "b", "c")), ["c", "a", "b"])

    def test_builds_that_do_not_hold(self):
        for build in (("a", "b", "c"), ("c",), ("a", "b")):
            self.assertIsNone(growth(full_book(), build))
            self.assertIs(is_grown(full_book(), build), False)

    def test_a_take_too_early_can_be_one_too_many(self):
        book = Book(flat(3), 1, gives=[("c", 2)], wants=[("all", "c", ("b",))])
        self.assertEqual(growth(book, ("a", "b", "c")), ["b", "c", "a"])
        book = Book(flat(3), 0, gives=[("c", 3)])
        self.assertEqual(growth(book, ("a", "b", "c")), ["c", "a", "b"])

    def test_against_the_document(self):
        seen = [0, 0]
        for book in random_books(100):
            for build in all_builds(book.names()):
                told = self.least(book, build)
                self.assertEqual(growth(book, build), told)
                self.assertIs(is_grown(book, build), told is not None)
                seen[told is not None] += 1
        self.assertGreater(min(seen), 500)

    def least(self, book, build):
        for order in itertools.permutations(build):
            parts = [tuple(name for name in book if name in order[:many]) for many in range(1, len(order) + 1)]
            if all(again.holds(book, part) for part in parts):
                return list(order)
        return None

    def test_looking_down_without_gives_each_build_that_holds_is_grown(self):
        seen = 0
        for book in random_books(400):
            if looks_down(book) and not book.gives():
                for build in again.good_builds(book):
                    self.assertIs(is_grown(book, build), True)
                    self.assertIs(comes(book, build), True)
                    seen += 1
        self.assertGreater(seen, 1000)

    def test_plain_books_are_plain(self):
        for seed in range(50):
            self.assertIs(is_plain(random_plain_book(seed)), True)

    def test_books_of_twelve(self):
        book = twelve_plain_book()
        self.assertIs(is_plain(book), True)
        for build in again.good_builds(book)[::20]:
            self.assertEqual(growth(book, build), list(build))
        book = twelve_book()
        table = again.all_moves(book)
        grown = again.come_from(table, (), ("take",))
        self.assertEqual([build for build in table if is_grown(book, build)], grown)

    def test_a_build_of_twelve_that_is_not_grown(self):
        # There are far too many orders of the ten others to try each of them.
        wants = [("all", "k", ("l",)), ("all", "l", ("k",))]
        self.assertIsNone(growth(Book(flat(12), 12, wants=wants), tuple(NAMES)))

    def test_a_new_list_each_time(self):
        told = growth(full_book(), ("a",))
        told.clear()
        self.assertEqual(growth(full_book(), ("a",)), ["a"])


class NoBuildTest(unittest.TestCase):
    def test_what_is_no_build(self):
        for value in no_builds("abcd"):
            for call in (growth, is_grown):
                with self.assertRaises(NoBuild) as caught:
                    call(full_book(), value)
                self.assertIs(caught.exception.build, value)


class NamesTest(unittest.TestCase):
    def test_arguments_by_name(self):
        book = full_book()
        self.assertIs(looks_down(book=book), True)
        self.assertIs(is_plain(book=book), False)
        self.assertIs(is_bare(book=book), False)
        self.assertEqual(ground(book=book), ("a", "b", "c", "d"))
        self.assertIs(is_grown(book=book, build=("a",)), True)
        self.assertEqual(growth(book=book, build=("a",)), ["a"])


if __name__ == "__main__":
    unittest.main()
