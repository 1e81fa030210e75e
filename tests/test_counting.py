"""[12], and the interface's heading "Stage 12": all builds that hold, how many, and which is the so-manieth."""

import random
import unittest

from refundtrees.books import Book
from refundtrees.counting import all_builds, bare_count, build_at, by_size, how_many, number_of
from refundtrees.errors import NoBuild, NoNumber, NoPlain
import tests_again as again
import tests_kit as kit
from tests_kit import (
    NAMES, flat, full_book, knot_book, no_builds, random_books, trap_book, twelve_book, twelve_plain_book,
    values_but_numbers,
)


def random_bare_book(seed):
    """A bare book of one to seven skills in one to four tiers; the same one for the same seed."""
    dice = random.Random(seed)
    tiers = sorted(dice.randint(1, dice.randint(1, 4)) for _ in range(dice.randint(1, 7)))
    return Book(
        list(zip(NAMES, tiers)),
        dice.randint(0, 8),
        needs=[(tier, dice.choice([0, 1, 2, 3, 12])) for tier in (2, 3, 4) if dice.random() < 0.8],
        prices=[("a", 5)],
        reset=dice.choice([None, 3]),
    )


class AllBuildsTest(unittest.TestCase):
    def test_in_order(self):
        book = Book([("c", 1), ("a", 1), ("b", 1)], 2)
        self.assertEqual(list(all_builds(book)),
                         [(), ("c",), ("a",), ("b",), ("c", "a"), ("c", "b"), ("a", "b")])
        self.assertEqual(list(all_builds(Book(flat(4), 4))), kit.all_builds("abcd"))
        self.assertEqual(list(all_builds(Book(flat(1), 0))), [()])

    def test_what_cannot_be_come_to_is_among_them(self):
        self.assertEqual(list(all_builds(trap_book())), [(), ("c",), ("a", "b")])

    def test_it_is_a_generator(self):
        told = all_builds(Book(flat(2), 2))
        self.assertIs(iter(told), told)
        self.assertEqual([next(told), next(told)], [(), ("a",)])
        self.assertEqual(list(told), [("b",), ("a", "b")])
        self.assertEqual(list(told), [])

    def test_against_the_document(self):
        for book in random_books(150):
            self.assertEqual(list(all_builds(book)), again.good_builds(book))

    def test_a_book_of_twelve(self):
        self.assertEqual(list(all_builds(twelve_book())), again.good_builds(twelve_book()))
        self.assertEqual(list(all_builds(Book(flat(12), 12))), kit.all_builds(NAMES))


class HowManyTest(unittest.TestCase):
    def test_how_many(self):
        self.assertEqual([how_many(Book(flat(4), points)) for points in range(6)], [1, 5, 11, 15, 16, 16])
        self.assertEqual(how_many(trap_book()), 3)
        self.assertEqual(how_many(Book(flat(12), 12)), 4096)

    def test_by_size(self):
        self.assertEqual(by_size(Book(flat(4), 4)), [1, 4, 6, 4, 1])
        self.assertEqual(by_size(Book(flat(4), 2)), [1, 4, 6, 0, 0])
        self.assertEqual(by_size(Book(flat(1), 0)), [1, 0])
        together = Book(flat(3), 3, wants=[("all", "a", ("b",)), ("all", "b", ("a",))])
        self.assertEqual(by_size(together), [1, 1, 1, 1])
        self.assertEqual(by_size(together.changed(bars=[("c", "a")])), [1, 1, 1, 0])

    def test_against_the_document(self):
        for book in random_books(150) + [twelve_book(), twelve_plain_book()]:
            builds = again.good_builds(book)
            self.assertEqual(how_many(book), len(builds))
            sizes = [len(build) for build in builds]
            self.assertEqual(by_size(book), [sizes.count(size) for size in range(len(book) + 1)])

    def test_a_new_list(self):
        by_size(Book(flat(2), 2)).clear()
        self.assertEqual(by_size(Book(flat(2), 2)), [1, 2, 1])


class NumbersTest(unittest.TestCase):
    def raises(self, error, attribute, value, call):
        with self.assertRaises(error) as caught:
            call()
        self.assertIs(getattr(caught.exception, attribute), value)

    def test_the_first_the_last_and_one_more(self):
        book = Book(flat(3), 2)
        self.assertEqual(build_at(book, 0), ())
        self.assertEqual(build_at(book, 1), ("a",))
        self.assertEqual(build_at(book, 6), ("b", "c"))
        for number in (7, 8, -1, -7, 10**30):
            self.raises(NoNumber, "value", number, lambda: build_at(book, number))
        self.assertEqual(build_at(Book(flat(1), 0), 0), ())
        self.raises(NoNumber, "value", 1, lambda: build_at(Book(flat(1), 0), 1))

    def test_what_is_no_number(self):
        for value in values_but_numbers():
            self.raises(NoNumber, "value", value, lambda: build_at(Book(flat(3), 2), value))

    def test_what_is_no_build_that_holds(self):
        bad = [build for build in kit.all_builds("abcd") if not again.holds(full_book(), build)]
        for value in no_builds("abcd") + bad:
            self.raises(NoBuild, "build", value, lambda: number_of(full_book(), value))

    def test_each_is_the_other_way_about_of_the_other(self):
        for book in random_books(80):
            for number, build in enumerate(again.good_builds(book)):
                self.assertEqual(build_at(book, number), build)
                self.assertEqual(number_of(book, build), number)
                self.assertIs(type(number_of(book, build)), int)
            self.assertRaises(NoNumber, build_at, book, how_many(book))

    def test_a_book_of_twelve(self):
        for book in (twelve_book(), Book(flat(12), 12)):
            builds = again.good_builds(book)
            for number in [0, 1, *range(0, len(builds), 37), len(builds) - 1]:
                self.assertEqual(build_at(book, number), builds[number])
                self.assertEqual(number_of(book, builds[number]), number)
            self.assertRaises(NoNumber, build_at, book, len(builds))


class BareCountTest(unittest.TestCase):
    def test_one_tier(self):
        self.assertEqual([bare_count(Book(flat(4), points)) for points in range(6)], [1, 5, 11, 15, 16, 16])
        self.assertEqual(bare_count(Book(flat(3, tier=4), 12)), 8)
        self.assertEqual(bare_count(Book(flat(3, tier=3), 12, needs=[(3, 1)])), 1)

    def test_two_to_four_tiers(self):
        two = Book([("a", 1), ("b", 1), ("c", 2)], 3, needs=[(2, 1)])
        self.assertEqual(bare_count(two), 7)
        self.assertEqual(bare_count(two.changed(needs=[(2, 2)])), 5)
        three = Book([("a", 1), ("b", 1), ("c", 2), ("d", 3)], 4, needs=[(2, 1), (3, 2)])
        self.assertEqual(bare_count(three), 11)
        four = Book([("a", 1), ("b", 2), ("c", 3), ("d", 4)], 4, needs=[(2, 1), (3, 2), (4, 3)])
        self.assertEqual(bare_count(four), 5)
        self.assertEqual(bare_count(four.changed(needs=[])), 16)

    def test_needs_and_points_that_are_short(self):
        four = Book([("a", 1), ("b", 2), ("c", 3), ("d", 4)], 4, needs=[(2, 2), (3, 1), (4, 12)])
        self.assertEqual(bare_count(four), 3)
        self.assertEqual([bare_count(four.changed(points=points)) for points in range(3)], [1, 2, 3])
        self.assertEqual(bare_count(four.changed(points=0)), 1)

    def test_beside_how_many(self):
        for seed in range(400):
            book = random_bare_book(seed)
            self.assertEqual(bare_count(book), len(again.good_builds(book)))
            self.assertEqual(bare_count(book), how_many(book))

    def test_a_book_of_twelve(self):
        skills = [(name, 1 + place // 3) for place, name in enumerate(NAMES)]
        for points in range(13):
            book = Book(skills, points, needs=[(2, 2), (3, 3), (4, 6)])
            self.assertEqual(bare_count(book), how_many(book))
        self.assertEqual(bare_count(Book(flat(12), 12)), 4096)

    def test_what_is_not_bare(self):
        bare = Book([("a", 1), ("b", 2)], 2, needs=[(2, 1)], prices=[("a", 3)], reset=1)
        self.assertEqual(bare_count(bare), 3)
        not_bare = [bare.changed(wants=[("all", "b", ("a",))]), bare.changed(wants=[("any", "b", ("a",))]),
                    bare.changed(bars=[("a", "b")]), bare.changed(gives=[("a", 1)]), full_book(), knot_book()]
        for book in not_bare:
            with self.assertRaises(NoPlain) as caught:
                bare_count(book)
            self.assertIs(caught.exception.book, book)


class NamesTest(unittest.TestCase):
    def test_arguments_by_name(self):
        book = Book(flat(2), 1)
        self.assertEqual(list(all_builds(book=book)), [(), ("a",), ("b",)])
        self.assertEqual((how_many(book=book), by_size(book=book), bare_count(book=book)), (3, [1, 2, 0], 3))
        self.assertEqual((build_at(number=2, book=book), number_of(build=("b",), book=book)), (("b",), 2))


if __name__ == "__main__":
    unittest.main()
