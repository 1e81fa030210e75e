"""[12], and the interface's heading "Stage 11": worths, and the builds of the greatest worth."""

import random
import unittest

from refundtrees.books import Book
from refundtrees.errors import NoBuild, NoWorth
from refundtrees.greatest import best_by_size, greatest, greatest_come, worth_of
import tests_again as again
from tests_kit import (
    Everything, NAMES, all_builds, flat, full_book, no_builds, odd_values, random_books, trap_book, twelve_book,
)

CALLS = (greatest, greatest_come, best_by_size)


def random_worths(book, seed):
    dice = random.Random(seed)
    return {name: dice.randint(-5, 5) for name in book.names() if dice.random() < 0.8}


def worth(build, worths):
    return sum(worths.get(skill, 0) for skill in build)


def best_of(builds, worths):
    most = max(worth(build, worths) for build in builds)
    return most, [build for build in builds if worth(build, worths) == most]


def no_worths():
    return [value for value in odd_values() if not isinstance(value, dict)] + [
        [], (), "", "a", 0, 1, [("a", 1)], (("a", 1),), {"x": 1}, {"": 1}, {"A": 1}, {None: 1}, {0: 1}, {True: 1},
        {("a",): 1}, {Everything(): 1}, {b"a": 1}, {"a": -100}, {"a": 100}, {"a": 10**30}, {"a": True}, {"a": False},
        {"a": None}, {"a": "1"}, {"a": ""}, {"a": 1.0}, {"a": [1]}, {"a": Everything()}, {"a": 1, "x": 1},
        {"a": 1, "b": 100}, {"a": 1, "b": None},
    ]


class WorthTest(unittest.TestCase):
    def test_builds_that_hold_and_that_do_not(self):
        book = full_book()
        worths = {"a": 5, "b": -3, "d": 40}
        for build in all_builds("abcd"):
            self.assertEqual(worth_of(book, build, worths), worth(build, worths))
        self.assertFalse(again.holds(book, ("a", "b")))
        self.assertEqual(worth_of(book, ("a", "b"), worths), 2)

    def test_what_is_not_told_is_worth_0(self):
        self.assertEqual(worth_of(Book(flat(3), 3), ("a", "c"), {"b": 7}), 0)
        self.assertEqual(worth_of(Book(flat(3), 3), ("a", "b", "c"), {"b": 7}), 7)
        self.assertEqual(worth_of(Book(flat(3), 3), ("a", "b", "c"), {}), 0)

    def test_the_least_and_the_greatest_number(self):
        book = Book(flat(3), 3)
        for number in (-99, -98, 0, 98, 99):
            self.assertEqual(worth_of(book, ("a",), {"a": number}), number)
        self.assertEqual(worth_of(book, ("a", "b", "c"), dict.fromkeys("abc", -99)), -297)

    def test_a_book_of_twelve(self):
        worths = {name: place - 5 for place, name in enumerate(NAMES)}
        self.assertEqual(worth_of(twelve_book(), tuple(NAMES), worths), 6)
        for build in all_builds(NAMES)[::100]:
            self.assertEqual(worth_of(twelve_book(), build, worths), worth(build, worths))


class GreatestTest(unittest.TestCase):
    def test_several_in_order(self):
        book = Book(flat(4), 2)
        worths = {"a": 3, "b": 2, "c": 2}
        self.assertEqual(greatest(book, worths), (5, [("a", "b"), ("a", "c")]))
        self.assertEqual(greatest(book, {"b": 1}), (1, [("b",), ("a", "b"), ("b", "c"), ("b", "d")]))
        other = Book([("d", 1), ("c", 1), ("a", 1)], 2)
        self.assertEqual(greatest(other, {"a": 1, "c": 1, "d": 1}), (2, [("d", "c"), ("d", "a"), ("c", "a")]))

    def test_all_worths_below_0(self):
        self.assertEqual(greatest(Book(flat(3), 3), dict.fromkeys("abc", -1)), (0, [()]))
        self.assertEqual(greatest_come(Book(flat(3), 3), dict.fromkeys("abc", -1)), (0, [()]))

    def test_no_worths(self):
        for book in random_books(20):
            self.assertEqual(greatest(book, {}), (0, again.good_builds(book)))
            self.assertEqual(greatest_come(book, {}), (0, again.come_from(again.all_moves(book), ())))

    def test_what_holds_and_cannot_be_come_to(self):
        worths = {"a": 5, "b": -1, "c": 3}
        for reset in (None, 0):
            self.assertEqual(greatest(trap_book(reset), worths), (4, [("a", "b")]))
            self.assertEqual(greatest_come(trap_book(reset), worths), (3, [("c",)]))

    def test_against_the_document(self):
        unlike = 0
        for seed, book in enumerate(random_books(150)):
            worths = random_worths(book, seed)
            table = again.all_moves(book)
            self.assertEqual(greatest(book, worths), best_of(list(table), worths))
            self.assertEqual(greatest_come(book, worths), best_of(again.come_from(table, ()), worths))
            unlike += greatest(book, worths) != greatest_come(book, worths)
        self.assertGreater(unlike, 5)

    def test_a_book_of_twelve(self):
        book = twelve_book()
        table = again.all_moves(book)
        for seed in range(10):
            worths = random_worths(book, seed)
            self.assertEqual(greatest(book, worths), best_of(list(table), worths))
            self.assertEqual(greatest_come(book, worths), best_of(again.come_from(table, ()), worths))
        self.assertEqual(greatest(Book(flat(12), 12), {}), (0, all_builds(NAMES)))


class BestBySizeTest(unittest.TestCase):
    def test_each_size(self):
        worths = {"a": 3, "b": -2, "c": 1}
        self.assertEqual(best_by_size(Book(flat(3), 3), worths), {0: 0, 1: 3, 2: 4, 3: 2})
        self.assertEqual(best_by_size(Book(flat(3), 3), dict.fromkeys("abc", -9)), {0: 0, 1: -9, 2: -18, 3: -27})

    def test_sizes_that_no_build_has(self):
        self.assertEqual(best_by_size(Book(flat(3), 1), {"b": 4}), {0: 0, 1: 4})
        together = Book(flat(2), 2, wants=[("all", "a", ("b",)), ("all", "b", ("a",))])
        self.assertEqual(best_by_size(together, {"b": 4}), {0: 0, 2: 4})

    def test_what_cannot_be_come_to_counts(self):
        self.assertEqual(best_by_size(trap_book(), {"a": 9}), {0: 0, 1: 0, 2: 9})

    def test_against_the_document(self):
        for seed, book in enumerate(random_books(100)):
            worths = random_worths(book, seed)
            told = {}
            for build in again.good_builds(book):
                told.setdefault(len(build), []).append(worth(build, worths))
            self.assertEqual(best_by_size(book, worths), {size: max(rows) for size, rows in told.items()})

    def test_a_book_of_twelve(self):
        worths = {name: 12 - place for place, name in enumerate(NAMES)}
        told = best_by_size(Book(flat(12), 12), worths)
        self.assertEqual(told, {size: sum(range(12, 12 - size, -1)) for size in range(13)})


class WrongTest(unittest.TestCase):
    def raises(self, error, attribute, value, call):
        with self.assertRaises(error) as caught:
            call()
        self.assertIs(getattr(caught.exception, attribute), value)

    def test_what_is_no_build(self):
        for value in no_builds("abcd"):
            self.raises(NoBuild, "build", value, lambda: worth_of(full_book(), value, {}))
            self.raises(NoBuild, "build", value, lambda: worth_of(full_book(), value, {"a": 100}))

    def test_what_are_no_worths(self):
        for value in no_worths():
            self.raises(NoWorth, "worths", value, lambda: worth_of(full_book(), (), value))
            self.raises(NoWorth, "worths", value, lambda: worth_of(full_book(), ("a", "b"), value))
            for call in CALLS:
                self.raises(NoWorth, "worths", value, lambda: call(full_book(), value))

    def test_what_was_handed_in_and_told_is_left_apart(self):
        book, worths = Book(flat(2), 2), {"a": 2}
        for call in CALLS:
            call(book, worths)
        self.assertEqual(worths, {"a": 2})
        told = greatest(book, worths)
        self.assertIs(type(told), tuple)
        told[1].clear()
        best_by_size(book, worths).clear()
        self.assertEqual(greatest(book, worths), (2, [("a",), ("a", "b")]))
        self.assertEqual(best_by_size(book, worths), {0: 0, 1: 2, 2: 2})


class NamesTest(unittest.TestCase):
    def test_arguments_by_name(self):
        book, worths = Book(flat(2), 1), {"b": 3}
        self.assertEqual(worth_of(worths=worths, build=("a", "b"), book=book), 3)
        self.assertEqual(greatest(worths=worths, book=book), (3, [("b",)]))
        self.assertEqual(greatest_come(worths=worths, book=book), (3, [("b",)]))
        self.assertEqual(best_by_size(worths=worths, book=book), {0: 0, 1: 3})


if __name__ == "__main__":
    unittest.main()
