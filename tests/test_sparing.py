"""[6] and the functions of the interface's heading "Stage 6": spare ways, and what ways cost and lead to."""

import unittest

from refundtrees.books import Book
from refundtrees.errors import NoBuild, NoPlain, NoWay
from refundtrees.sparing import is_way, spare_way, way_back, way_end, way_price
import tests_again as again
from tests_kit import (
    all_builds, flat, full_book, no_builds, no_steps, random_books, random_plain_book, trap_book, twelve_plain_book,
    values_but_rows,
)


def tiered_book(points=5):
    """The book of the document, with a price and a reset."""
    skills = [("a", 1), ("b", 1), ("c", 1), ("d", 1), ("e", 2), ("f", 2)]
    return Book(skills, points, needs=[(2, 2)], prices=[("e", 5)], reset=4)


class SpareWayTest(unittest.TestCase):
    def test_the_latest_of_what_is_too_much_first(self):
        self.assertEqual(spare_way(tiered_book(), ("a", "b", "c", "e"), ("a", "b")), [("give", "e"), ("give", "c")])
        self.assertEqual(spare_way(tiered_book(), ("a", "b", "c", "d"), ()),
                         [("give", name) for name in "dcba"])

    def test_the_earliest_of_what_is_missing_else(self):
        self.assertEqual(spare_way(tiered_book(), (), ("a", "c", "e")),
                         [("take", "a"), ("take", "c"), ("take", "e")])
        self.assertEqual(spare_way(tiered_book(), ("c", "d", "f"), ("a", "b", "e")),
                         [("take", "a"), ("give", "f"), ("take", "b"), ("give", "d"), ("take", "e"), ("give", "c")])

    def test_nothing_missing(self):
        self.assertEqual(spare_way(tiered_book(), ("a", "b", "e"), ("a", "b")), [("give", "e")])
        self.assertEqual(spare_way(tiered_book(), ("a", "b"), ("a", "b")), [])

    def test_from_builds_as_great_as_the_points(self):
        self.assertEqual(spare_way(tiered_book(3), ("a", "b", "e"), ("c", "d")),
                         [("give", "e"), ("take", "c"), ("give", "b"), ("take", "d"), ("give", "a")])

    def test_to_builds_as_great_as_the_points(self):
        for one in ((), ("a", "b", "e"), ("a", "c", "e")):
            self.refused(NoBuild, ("a", "b", "e"), tiered_book(3), one, ("a", "b", "e"))
        self.refused(NoBuild, (), Book(flat(2), 0), (), ())

    def test_gives_back_what_is_too_much_and_takes_what_is_missing_just_once(self):
        for seed in range(150):
            book = random_plain_book(seed)
            table = again.all_moves(book)
            for other in table:
                for one in table:
                    if len(other) < book.points:
                        self.right_way(book, table, one, other)

    def right_way(self, book, table, one, other):
        way = spare_way(book, one, other)
        self.assertEqual(again.played(table, one, way)[1], other)
        self.assertEqual(sorted(way), sorted([("give", name) for name in one if name not in other]
                                             + [("take", name) for name in other if name not in one]))
        self.assertEqual(way, self.told(book, one, other))

    def told(self, book, one, other):
        """[6] once more."""
        way, build = [], one
        while build != other:
            much = [name for name in build if name not in other]
            missing = [name for name in other if name not in build]
            if len(build) > len(other) or missing == []:
                way.append(("give", much[-1]))
            else:
                way.append(("take", missing[0]))
            build = tuple(name for name in book.names() if (name in build) != (name == way[-1][1]))
        return way

    def test_a_book_of_twelve(self):
        book = twelve_plain_book()
        builds = again.good_builds(book)
        for one in builds[::40]:
            for other in builds[::60]:
                if len(other) < book.points:
                    way = spare_way(book, one, other)
                    self.assertEqual(way, self.told(book, one, other))
                    self.assertEqual(way_end(book, one, way), other)

    def test_books_that_are_not_plain(self):
        for parts in ({"wants": [("any", "b", ("a",))]}, {"wants": [("all", "a", ("b",))]}, {"bars": [("a", "c")]},
                      {"gives": [("a", 1)]}):
            book = tiered_book().changed(**parts)
            for one, other in (((), ()), (None, ()), ((), None)):
                with self.assertRaises(NoPlain) as caught:
                    spare_way(book, one, other)
                self.assertIs(caught.exception.book, book)

    def test_what_is_no_build_that_holds(self):
        book = tiered_book()
        for value in no_builds("abcdef") + [("a", "e"), ("e",), tuple("abcdef")]:
            for one, other in ((value, ()), ((), value), (value, value), (value, None), (value, ("a", "b", "c", "d", "e"))):
                self.refused(NoBuild, value, book, one, other)
        self.refused(NoBuild, ("e",), book, ("e",), tuple("abcde"))

    def refused(self, error, value, book, one, other):
        with self.assertRaises(error) as caught:
            spare_way(book, one, other)
        self.assertTrue(caught.exception.build is value or caught.exception.build == value)


class WaysTest(unittest.TestCase):
    def test_of_every_two_steps(self):
        for book in random_books(40):
            table = again.all_moves(book)
            for one in table:
                firsts = [step for step, _, _ in table[one]] + [("give", "a"), ("reset",)]
                for first in firsts:
                    for second in [("take", "b"), ("give", "a"), ("reset",), ("take", "x")]:
                        self.each(book, table, one, [first, second])

    def each(self, book, table, one, way):
        told = again.played(table, one, way)
        for form in (way, tuple(way)):
            self.assertIs(is_way(book, one, form), told is not None)
            if told is None:
                index = 0 if again.played(table, one, way[:1]) is None else 1
                for call in (way_price, way_end):
                    self.no_way(call, book, one, form, index)
            else:
                self.assertEqual((way_price(book, one, form), way_end(book, one, form)), told)

    def no_way(self, call, book, one, way, index):
        with self.assertRaises(NoWay) as caught:
            call(book, one, way)
        self.assertEqual(caught.exception.index, index)
        self.assertIs(type(caught.exception.index), type(index))

    def test_empty_ways(self):
        for one in ((), ("a",), ("a", "b", "e")):
            for way in ([], ()):
                book = tiered_book()
                self.assertIs(is_way(book, one, way), True)
                self.assertEqual((way_price(book, one, way), way_end(book, one, way), way_back(book, one, way)),
                                 (0, one, []))

    def test_prices_add_up(self):
        way = [("take", "a"), ("take", "b"), ("take", "e"), ("give", "e"), ("give", "b"), ("reset",), ("take", "d")]
        self.assertEqual([way_price(tiered_book(), (), way[:many]) for many in range(8)], [0, 0, 0, 0, 5, 6, 10, 10])
        self.assertEqual([way_end(tiered_book(), (), way[:many]) for many in range(8)],
                         [(), ("a",), ("a", "b"), ("a", "b", "e"), ("a", "b"), ("a",), (), ("d",)])

    def test_a_step_that_is_not_possible_first_in_the_middle_and_last(self):
        way = [("take", "a"), ("take", "b"), ("take", "e")]
        for wrong in [("give", "f"), ("take", "x"), ["take", "c"], ("take",), None]:
            for place in range(4):
                bent = way[:place] + [wrong] + way[place:]
                for form in (bent, tuple(bent)):
                    self.assertIs(is_way(tiered_book(), (), form), False)
                    for call in (way_price, way_end, way_back):
                        self.no_way(call, tiered_book(), (), form, place)

    def test_the_first_of_several_that_are_not_possible(self):
        for call in (way_price, way_end, way_back):
            self.no_way(call, tiered_book(), (), [("take", "a"), ("take", "e"), None, ("give", "b")], 1)

    def test_a_reset_at_the_empty_build_or_without_a_price(self):
        for book, one in ((tiered_book(), ()), (tiered_book().changed(reset=None), ("a",))):
            self.assertIs(is_way(book, one, [("reset",)]), False)
            for call in (way_price, way_end, way_back):
                self.no_way(call, book, one, [("reset",)], 0)

    def test_values_that_are_no_list_or_tuple(self):
        for value in values_but_rows() + [("take", "a").__iter__(), "take a", {("take", "a"): 1}]:
            self.assertIs(is_way(tiered_book(), (), value), False)
            for call in (way_price, way_end, way_back):
                self.no_way(call, tiered_book(), (), value, None)

    def test_values_in_a_way_that_are_no_steps(self):
        for value in no_steps():
            self.assertIs(is_way(full_book(), (), [value]), False)
            self.assertIs(is_way(full_book(), (), (("take", "a"), value)), False)
            for call in (way_price, way_end, way_back):
                self.no_way(call, full_book(), (), [("take", "a"), value], 1)

    def test_a_single_step_is_no_way(self):
        self.assertIs(is_way(tiered_book(), (), ("take", "a")), False)
        self.no_way(way_price, tiered_book(), (), ("take", "a"), 0)

    def test_no_build_ahead_of_no_way(self):
        book = full_book()
        bad = [build for build in all_builds("abcd") if not again.holds(book, build)]
        for value in no_builds("abcd") + bad:
            for way in ([], [("take", "a")], [None], None):
                for call in (is_way, way_price, way_end, way_back):
                    with self.assertRaises(NoBuild) as caught:
                        call(book, value, way)
                    self.assertIs(caught.exception.build, value)

    def test_what_was_handed_in_stays(self):
        way = [("take", "a"), ("take", "b")]
        way_back(tiered_book(), (), way).clear()
        self.assertEqual((way, way_end(tiered_book(), (), way)), ([("take", "a"), ("take", "b")], ("a", "b")))


class WayBackTest(unittest.TestCase):
    def test_step_by_step(self):
        way = [("take", "a"), ("take", "b"), ("take", "e"), ("take", "c"), ("give", "a")]
        back = [("take", "a"), ("give", "c"), ("give", "e"), ("give", "b"), ("give", "a")]
        for form in (way, tuple(way)):
            self.assertEqual(way_back(tiered_book(), (), form), back)
            self.assertIs(type(way_back(tiered_book(), (), form)), list)

    def test_leads_back(self):
        for book in random_books(60):
            table = again.all_moves(book)
            for one in table:
                way, build = [], one
                for place in range(6):
                    rows = [row for row in table[build] if row[0] != ("reset",)]
                    if rows:
                        step, _, build = rows[(place * 7 + len(way)) % len(rows)]
                        way.append(step)
                back = way_back(book, one, way)
                self.assertEqual(again.played(table, build, back)[1], one)
                self.assertEqual(way_back(book, build, back), way)

    def test_a_reset_ahead_of_and_behind_a_step_that_is_not_possible(self):
        take, wrong, reset = ("take", "a"), ("take", "e"), ("reset",)
        for way, index in (([take, reset], 1), ([take, reset, wrong], 1), ([take, wrong, reset], 1),
                           ([wrong, take, reset], 0), ([take, reset, take, wrong], 1), ([reset], 0)):
            for form in (way, tuple(way)):
                with self.assertRaises(NoWay) as caught:
                    way_back(tiered_book(), (), form)
                self.assertEqual(caught.exception.index, index)

    def test_a_reset_is_no_way_back_but_a_way(self):
        self.assertIs(is_way(tiered_book(), (), [("take", "a"), ("reset",)]), True)
        self.assertEqual(way_price(trap_book(6), ("a", "b"), [("reset",), ("take", "c")]), 6)


class NamesTest(unittest.TestCase):
    def test_arguments_by_name(self):
        book, way = tiered_book(), [("take", "a"), ("give", "a")]
        self.assertEqual(spare_way(book=book, one=("a",), other=()), [("give", "a")])
        self.assertIs(is_way(book=book, one=(), way=way), True)
        self.assertEqual(way_price(book=book, one=(), way=way), 1)
        self.assertEqual(way_end(book=book, one=(), way=way), ())
        self.assertEqual(way_back(book=book, one=(), way=way), way)


if __name__ == "__main__":
    unittest.main()
