"""[7], [8] and the interface's heading "Stage 7": prices by the formula, and least prices."""

import unittest

from refundtrees.books import Book
from refundtrees.errors import NoBuild, NoPlain
from refundtrees.prices import is_tight, least_price, least_way, plain_price, plain_way, potentials
from refundtrees.sparing import spare_way
import tests_again as again
from tests_kit import (
    all_builds, flat, full_book, no_builds, random_books, random_plain_book, trap_book, twelve_book, twelve_plain_book,
)


def tiered_book(points, **parts):
    skills = [("a", 1), ("b", 1), ("c", 1), ("d", 1), ("e", 2), ("f", 2)]
    return Book(skills, points, **{"needs": [(2, 2)], **parts})


def no_resets(step, price):
    return None if step == ("reset",) else price


class PlainTest(unittest.TestCase):
    def told(self, book, one, other):
        way = plain_way(book, one, other)
        price = plain_price(book, one, other)
        self.assertEqual(again.played(again.all_moves(book), one, way), (price, other))
        self.assertNotIn(("reset",), way)
        self.assertIs(type(is_tight(book, one, other)), bool)
        return price, is_tight(book, one, other)

    def test_from_a_build_to_itself(self):
        book = tiered_book(3, reset=0)
        for build in ((), ("a", "b"), ("a", "b", "e")):
            self.assertEqual(self.told(book, build, build), (0, False))
            self.assertEqual(plain_way(book, build, build), [])
        self.assertEqual(self.told(tiered_book(0), (), ()), (0, False))

    def test_one_within_the_other(self):
        book = tiered_book(3, prices=[("e", 5), ("b", 3)])
        self.assertEqual(self.told(book, (), ("a", "b", "e")), (0, False))
        self.assertEqual(self.told(book, ("a",), ("a", "b")), (0, False))
        self.assertEqual(self.told(book, ("a", "b", "e"), ("a",)), (8, False))
        self.assertEqual(self.told(book, ("a", "b"), ()), (4, False))

    def test_smaller_than_the_points(self):
        book = tiered_book(4, prices=[("e", 5), ("b", 3), ("a", 0)])
        self.assertEqual(self.told(book, ("a", "b", "e"), ("a", "c", "f")), (8, False))
        self.assertEqual(self.told(book, ("a", "b", "e"), ("c", "d")), (8, False))

    def test_as_great_as_the_points_and_something_can_be_given_back_at_once(self):
        book = tiered_book(3, prices=[("e", 5)])
        self.assertEqual(self.told(book, ("a", "b", "e"), ("a", "b", "f")), (5, False))
        self.assertEqual(self.told(book, ("a", "b", "c"), ("a", "b", "e")), (1, False))
        self.assertEqual(self.told(book, ("a", "b", "e"), ("a", "c", "f")), (6, False))

    def test_as_great_as_the_points_and_nothing_can_be_given_back_at_once(self):
        book = tiered_book(3, prices=[("e", 5), ("b", 3)])
        self.assertEqual(self.told(book, ("a", "b", "e"), ("a", "c", "e")), (8, True))
        self.assertEqual(self.told(book, ("b", "c", "e"), ("a", "d", "e")), (9, True))

    def test_the_cheapest_of_those_that_can_be_given_back(self):
        skills = [("a", 1), ("b", 1), ("c", 1), ("d", 2), ("e", 2)]
        for prices, told in (([("d", 4), ("e", 6)], 5), ([("d", 6), ("e", 4)], 5), ([("d", 0), ("e", 6)], 1)):
            book = Book(skills, 4, needs=[(2, 2)], prices=prices)
            self.assertEqual(self.told(book, ("a", "b", "d", "e"), ("a", "c", "d", "e")), (told, True))

    def test_a_shared_skill_that_can_not_be_given_back_is_not_taken_for_it(self):
        book = tiered_book(3, prices=[("a", 0), ("b", 7), ("e", 5)])
        self.assertEqual(self.told(book, ("a", "b", "e"), ("a", "c", "e")), (12, True))

    def test_only_one_of_them_as_great_as_the_points(self):
        book = tiered_book(3, prices=[("e", 5)])
        self.assertEqual(self.told(book, ("a", "b", "e"), ("c", "d")), (7, False))
        self.assertEqual(self.told(book, ("c", "d"), ("a", "b", "e")), (2, False))

    def test_resets_are_left_aside(self):
        for reset in (None, 0, 1):
            book = tiered_book(3, reset=reset)
            self.assertEqual(self.told(book, ("a", "b", "e"), ()), (3, False))
            self.assertEqual(self.told(book, ("a", "b", "e"), ("a", "c", "e")), (2, True))

    def test_the_formula_tells_the_price_of_a_cheapest_way(self):
        seen = [0, 0]
        for seed in range(250):
            book = random_plain_book(seed)
            table = again.all_moves(book)
            for other in table:
                least, plain = again.least_to(table, other), again.least_to(table, other, no_resets)
                for one in table:
                    self.assertEqual(plain_price(book, one, other), plain[one])
                    resets = [book.reset] if book.reset is not None and one != () else []
                    self.assertEqual(min([plain[one], *resets]), least[one])
                    way, tight = plain_way(book, one, other), is_tight(book, one, other)
                    self.assertEqual(again.played(table, one, way), (plain[one], other))
                    self.assertNotIn(("reset",), way)
                    gone = sum(book.price_of(skill) for skill in one if skill not in other)
                    if not tight:
                        self.assertEqual(plain[one], gone)
                    self.assertIs(tight, self.tight(book, table, one, other))
                    seen[tight] += 1
        self.assertGreater(min(seen), 20)

    def tight(self, book, table, one, other):
        """The words of [8] once more."""
        if one == other or len(one) != book.points or len(other) != book.points:
            return False
        return not any(step == ("give", skill) for step, _, _ in table[one] for skill in set(one) - set(other))

    def test_a_book_of_twelve(self):
        book = twelve_plain_book()
        builds = again.good_builds(book)
        great = [build for build in builds if len(build) == book.points]
        for other in builds[::250] + great[::60]:
            told = potentials(book, other)
            for one in builds[::120] + great[::40]:
                price = plain_price(book, one, other)
                self.assertEqual(told[one], price if one == () else min(price, book.reset))
                way = plain_way(book, one, other)
                self.assertEqual(len([step for step in way if step[0] == "give"]),
                                 len(set(one) - set(other)) + is_tight(book, one, other))

    def test_a_spare_way_costs_the_plain_price(self):
        book = tiered_book(5, prices=[("e", 5)])
        for one in again.good_builds(book):
            way = spare_way(book, one, ("a", "b"))
            self.assertEqual(again.played(again.all_moves(book), one, way)[0], plain_price(book, one, ("a", "b")))


class PlainErrorsTest(unittest.TestCase):
    def refused(self, error, value, book, one, other):
        for call in (plain_price, plain_way, is_tight):
            with self.assertRaises(error) as caught:
                call(book, one, other)
            told = caught.exception.book if error is NoPlain else caught.exception.build
            self.assertTrue(told is value or told == value)

    def test_books_that_are_not_plain(self):
        for parts in ({"wants": [("any", "b", ("a",))]}, {"wants": [("all", "a", ("b",))]}, {"bars": [("a", "c")]},
                      {"gives": [("a", 1)]}, {"wants": [("count", "b", ("a",), 1)]}):
            book = tiered_book(3).changed(**parts)
            for one, other in (((), ()), (None, ()), ((), None), (None, None)):
                self.refused(NoPlain, book, book, one, other)

    def test_what_is_no_build_that_holds(self):
        book = tiered_book(3)
        for value in no_builds("abcdef") + [("a", "e"), ("a", "b", "c", "d")]:
            for one, other in ((value, ()), ((), value), (value, value), (value, None)):
                self.refused(NoBuild, value, book, one, other)
        self.refused(NoBuild, ("e",), book, ("e",), ("f",))


class LeastTest(unittest.TestCase):
    def each(self, book):
        table = again.all_moves(book)
        for other in table:
            least = again.least_to(table, other)
            self.assertEqual(potentials(book, other), least)
            for one in table:
                self.assertEqual(least_price(book, one, other), least.get(one))
                way = least_way(book, one, other)
                if one in least:
                    self.assertEqual(again.played(table, one, way), (least[one], other))
                else:
                    self.assertIsNone(way)
        return table

    def test_books_of_every_sort(self):
        for book in random_books(60):
            self.each(book)

    def test_the_least_price_is_no_truth(self):
        self.assertIs(type(least_price(Book(flat(2), 2, prices=[("a", 0)]), ("a",), ())), int)

    def test_resets_that_are_cheaper_as_dear_and_dearer(self):
        one, other = ("a", "b", "c"), ("d",)
        for reset, told in ((0, 0), (2, 2), (3, 3), (4, 3), (99, 3), (None, 3)):
            book = Book(flat(4), 3, reset=reset)
            self.assertEqual(least_price(book, one, other), told)
            way = least_way(book, one, other)
            self.assertEqual(again.played(again.all_moves(book), one, way), (told, other))
            if told < 3:
                self.assertEqual(way, [("reset",), ("take", "d")])
            if reset != 3:
                self.assertIs(("reset",) in way, told < 3)

    def test_a_reset_behind_other_steps(self):
        book = Book(flat(4), 2, gives=[("d", 2)], prices=[("a", 1), ("b", 50), ("c", 50), ("d", 50)], reset=60)
        self.each(book)

    def test_from_the_empty_build(self):
        for reset in (None, 0, 5):
            book = Book(flat(3), 3, reset=reset)
            self.assertEqual([least_price(book, (), other) for other in all_builds("abc")], [0] * 8)
            self.assertEqual(least_way(book, (), ()), [])

    def test_prices_of_none_and_of_99(self):
        book = Book(flat(3), 2, prices=[("a", 0), ("b", 99), ("c", 99)], reset=99)
        self.assertEqual(least_price(book, ("a",), ()), 0)
        self.assertEqual(least_price(book, ("b",), ()), 99)
        self.assertEqual(least_price(book, ("b", "c"), ("a",)), 99)
        self.assertEqual(least_price(book.changed(reset=None), ("b", "c"), ("a",)), 198)
        self.each(book)

    def test_where_no_way_leads(self):
        for reset in (None, 4):
            book = trap_book(reset)
            self.assertIsNone(least_price(book, (), ("a", "b")))
            self.assertIsNone(least_way(book, ("c",), ("a", "b")))
            self.assertEqual(potentials(book, ("a", "b")), {("a", "b"): 0})
            self.assertEqual(least_price(book, ("a", "b"), ("c",)), reset)
            self.assertEqual(least_way(book, ("a", "b"), ("c",)), reset and [("reset",), ("take", "c")])
            self.each(book)

    def test_books_of_twelve(self):
        book = twelve_book()
        table = again.all_moves(book)
        builds = list(table)
        for other in builds[::90]:
            least = again.least_to(table, other)
            self.assertEqual(potentials(book, other), least)
            for one in builds[::70]:
                self.assertEqual(least_price(book, one, other), least.get(one))
                self.assertEqual(again.played(table, one, least_way(book, one, other)), (least[one], other))
        self.assertEqual(len(potentials(Book(flat(12), 12), ())), 4096)
        self.assertEqual(potentials(Book(flat(12), 12), ())[tuple("abcdefghijkl")], 12)

    def test_a_new_dict_each_time(self):
        told = potentials(full_book(), ())
        kept = dict(told)
        told.clear()
        self.assertEqual(potentials(full_book(), ()), kept)
        least_way(full_book(), ("a",), ()).clear()
        self.assertEqual(len(least_way(full_book(), ("a",), ())), 1)

    def test_what_is_no_build_that_holds(self):
        book = full_book()
        bad = no_builds("abcd") + [build for build in all_builds("abcd") if not again.holds(book, build)]
        for value in bad:
            for call in (least_price, least_way):
                for one, other in ((value, ()), ((), value), (value, value), (value, None)):
                    with self.assertRaises(NoBuild) as caught:
                        call(book, one, other)
                    self.assertIs(caught.exception.build, value)
            with self.assertRaises(NoBuild) as caught:
                potentials(book, value)
            self.assertIs(caught.exception.build, value)


class NamesTest(unittest.TestCase):
    def test_arguments_by_name(self):
        book = tiered_book(3)
        told = {"book": book, "one": ("a", "b", "e"), "other": ("a", "c", "e")}
        self.assertEqual((plain_price(**told), is_tight(**told), least_price(**told)), (2, True, 2))
        self.assertEqual(plain_way(**told), plain_way(*told.values()))
        self.assertEqual(least_way(**told), least_way(*told.values()))
        self.assertEqual(potentials(book=book, other=()), potentials(book, ()))


class ExamplesTest(unittest.TestCase):
    def test_the_first_of_the_document(self):
        book = Book([("a", 1), ("b", 1), ("c", 1), ("d", 1), ("e", 2), ("f", 2)], 3, needs=[(2, 2)])
        one, other = ("a", "b", "e"), ("a", "c", "e")
        told = (plain_price(book, one, other), is_tight(book, one, other),
                plain_price(book.changed(points=4), one, other))
        self.assertEqual(told, (2, True, 1))

    def test_the_second_of_the_document(self):
        skills = [("a", 1), ("b", 1), ("c", 1), ("d", 1), ("e", 2), ("f", 2)]
        book = Book(skills, 5, needs=[(2, 2)], prices=[("e", 5)], reset=4)
        told = (spare_way(book, ("a", "b", "c", "e"), ("a", "b")), least_price(book, ("a", "b", "e"), ("a", "c")))
        self.assertEqual(told, ([("give", "e"), ("give", "c")], 4))


if __name__ == "__main__":
    unittest.main()
