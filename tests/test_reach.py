"""[3], [5], the order of [12] and the interface's heading "Stage 5": what can be come to, and by which ways."""

import unittest

from refundtrees.books import Book
from refundtrees.errors import NoBuild, NoNumber
from refundtrees.reach import closed_without, comes, fewest_points, knots, reached, way_to
import tests_again as again
from tests_kit import (
    NAMES, all_builds, flat, full_book, knot_book, no_builds, random_books, trap_book, twelve_book, values_but_numbers,
)


class ReachedTest(unittest.TestCase):
    def test_in_order(self):
        self.assertEqual(reached(Book([("c", 1), ("a", 1), ("b", 1)], 2)),
                         [(), ("c",), ("a",), ("b",), ("c", "a"), ("c", "b"), ("a", "b")])
        self.assertEqual(reached(Book(flat(4), 4)), all_builds("abcd"))
        self.assertEqual(reached(Book(flat(1), 0)), [()])

    def test_knots_are_among_them(self):
        self.assertEqual(reached(knot_book()), [(), ("c",), ("a", "b"), ("a", "c"), ("b", "c"), ("a", "b", "c")])

    def test_no_reset_is_gone_by(self):
        for reset in (None, 0):
            self.assertEqual(reached(trap_book(reset)), [(), ("c",)])

    def test_skills_that_give_points(self):
        book = Book(flat(3), 0, gives=[("b", 2)])
        self.assertEqual(reached(book), [(), ("b",), ("a", "b"), ("b", "c")])
        self.assertEqual(reached(Book(flat(3), 0, gives=[("b", 3)], wants=[("all", "b", ("a",))])), [()])

    def test_against_the_document(self):
        for book in random_books(200):
            table = again.all_moves(book)
            told = again.come_from(table, ())
            self.assertEqual(reached(book), told)
            self.assertEqual([comes(book, build) for build in table], [build in told for build in table])

    def test_a_book_of_twelve(self):
        book = twelve_book()
        table = again.all_moves(book)
        self.assertEqual(reached(book), again.come_from(table, ()))
        self.assertEqual([build for build in table if comes(book, build)], reached(book))
        self.assertEqual(reached(Book(flat(12), 12)), all_builds(NAMES))

    def test_a_new_list_each_time(self):
        book = full_book()
        told = reached(book)
        kept = list(told)
        told.clear()
        self.assertEqual(reached(book), kept)


class ComesTest(unittest.TestCase):
    def test_builds_that_do_not_hold(self):
        for book in random_books(50):
            for build in all_builds(book.names()):
                if not again.holds(book, build):
                    self.assertIs(comes(book, build), False)

    def test_what_holds_and_cannot_be_come_to(self):
        self.assertIs(comes(trap_book(), ("a", "b")), False)
        self.assertIs(comes(trap_book(0), ("a", "b")), False)

    def test_knots(self):
        self.assertIs(comes(knot_book(), ("a", "b")), True)
        self.assertIs(comes(knot_book().changed(points=2), ("a", "b")), False)


class KnotsTest(unittest.TestCase):
    def test_in_order(self):
        wants = [("any", "a", ("b", "e")), ("any", "b", ("a", "e")), ("any", "c", ("d", "e")), ("any", "d", ("c", "e"))]
        self.assertEqual(knots(Book(flat(5), 5, wants=wants)), [("a", "b"), ("c", "d"), ("a", "b", "c", "d")])

    def test_none(self):
        self.assertEqual(knots(Book(flat(5), 5)), [])
        self.assertEqual(knots(trap_book()), [])

    def test_against_the_document(self):
        seen = 0
        for book in random_books(400):
            table = again.all_moves(book)
            grown = again.come_from(table, (), ("take",))
            told = [build for build in again.come_from(table, ()) if build not in grown]
            self.assertEqual(knots(book), told)
            seen += len(told)
        self.assertGreater(seen, 20)


class WayToTest(unittest.TestCase):
    def test_from_a_build_to_itself(self):
        for build in ((), ("a",), ("a", "d")):
            self.assertEqual(way_to(Book(flat(4), 2, reset=0), build, build), [])

    def test_the_fewest_steps(self):
        book = Book([("a", 1), ("b", 1), ("c", 1), ("d", 1), ("e", 2), ("f", 2)], 3, needs=[(2, 2)])
        self.assertEqual(len(way_to(book, ("a", "b", "e"), ("a", "c", "e"))), 4)
        self.assertEqual(len(way_to(book.changed(points=4), ("a", "b", "e"), ("a", "c", "e"))), 2)
        self.assertEqual(way_to(book, ("a", "b"), ("b",)), [("give", "a")])

    def test_no_reset_however_near(self):
        book = Book(flat(5), 5, reset=0)
        told = way_to(book, tuple("abcde"), ())
        self.assertEqual(sorted(told), [("give", name) for name in "abcde"])
        self.assertIsNone(way_to(trap_book(0), ("a", "b"), ()))

    def test_none(self):
        self.assertIsNone(way_to(trap_book(), (), ("a", "b")))
        self.assertIsNone(way_to(trap_book(), ("a", "b"), ("c",)))

    def test_fewest_and_not_cheapest(self):
        book = Book(flat(3), 2, prices=[("a", 99), ("b", 0)], wants=[("any", "c", ("b",))])
        self.assertEqual(way_to(book, ("a", "b"), ("b", "c")), [("give", "a"), ("take", "c")])

    def test_against_the_document(self):
        seen = [0, 0]
        for book in random_books(80):
            table = again.all_moves(book)
            for other in table:
                least = again.least_to(table, other, again.without_reset)
                for one in table:
                    way = way_to(book, one, other)
                    seen[way is None] += 1
                    self.assertEqual(way is None, one not in least)
                    if way is not None:
                        self.assertEqual(len(way), least[one])
                        self.assertNotIn(("reset",), way)
                        self.assertEqual(again.played(table, one, way)[1], other)
        self.assertGreater(min(seen), 100)

    def test_a_way_leads_back_if_one_leads_there(self):
        for book in random_books(80):
            builds = again.good_builds(book)
            for one in builds:
                for other in builds:
                    there, back = way_to(book, one, other), way_to(book, other, one)
                    self.assertEqual(there is None, back is None)

    def test_a_book_of_twelve(self):
        book = twelve_book()
        table = again.all_moves(book)
        for other in reached(book)[::60]:
            least = again.least_to(table, other, again.without_reset)
            for one in reached(book)[::30]:
                way = way_to(book, one, other)
                self.assertEqual(len(way), least[one])
                self.assertEqual(again.played(table, one, way)[1], other)


class FewestPointsTest(unittest.TestCase):
    def test_from_none_to_twelve(self):
        book = Book(flat(12), 3)
        self.assertEqual([fewest_points(book, tuple(NAMES[:many])) for many in range(13)], list(range(13)))

    def test_more_than_its_size(self):
        self.assertEqual(fewest_points(knot_book(), ("a", "b")), 3)
        self.assertEqual(fewest_points(knot_book().changed(points=0), ("a", "b")), 3)

    def test_fewer_than_its_size(self):
        book = Book(flat(3), 12, gives=[("c", 2)], wants=[("all", "c", ("a",))])
        self.assertEqual(fewest_points(book, ("a", "b", "c")), 1)
        self.assertEqual(fewest_points(Book(flat(3), 12, gives=[("c", 3)]), ("a", "b", "c")), 0)

    def test_none(self):
        for book in (trap_book(), trap_book(0)):
            self.assertIsNone(fewest_points(book, ("a", "b")))
        self.assertIsNone(fewest_points(Book(flat(2), 12, bars=[("a", "b")]), ("a", "b")))
        self.assertIsNone(fewest_points(Book(flat(1, 2), 12, needs=[(2, 1)]), ("a",)))

    def test_against_the_document(self):
        seen = set()
        for book in random_books(60):
            come = [again.come_from(again.all_moves(book.changed(points=points)), ()) for points in range(13)]
            for build in all_builds(book.names()):
                told = [points for points in range(13) if build in come[points]]
                self.assertEqual(fewest_points(book, build), told[0] if told else None)
                seen.add(told[0] if told else None)
        self.assertGreater(len(seen), 5)


class ClosedWithoutTest(unittest.TestCase):
    def test_just_enough_points_and_one_less(self):
        self.assertIsNone(closed_without(knot_book(), ("a", "b"), 3))
        self.assertEqual(closed_without(knot_book(), ("a", "b"), 2), [(), ("c",), ("a", "c"), ("b", "c")])
        for book in random_books(60):
            for build in all_builds(book.names()):
                fewest = fewest_points(book, build)
                if fewest is not None:
                    self.assertIsNone(closed_without(book, build, fewest))
                    self.assertIsNone(closed_without(book, build, 12))
                if fewest:
                    told = closed_without(book, build, fewest - 1)
                    self.assertEqual(told, reached(book.changed(points=fewest - 1)))
                    self.assertNotIn(build, told)
                if fewest is None:
                    self.assertEqual(closed_without(book, build, 12), reached(book.changed(points=12)))

    def test_the_points_of_the_book_do_not_count(self):
        for points in range(13):
            self.assertEqual(closed_without(Book(flat(3), points), ("a", "b"), 1), [(), ("a",), ("b",), ("c",)])
            self.assertIsNone(closed_without(Book(flat(3), points), ("a", "b"), 2))

    def test_no_points(self):
        self.assertEqual(closed_without(Book(flat(2), 2), ("a",), 0), [()])
        self.assertIsNone(closed_without(Book(flat(2), 2), (), 0))

    def test_what_is_no_number_from_none_to_twelve(self):
        for value in values_but_numbers() + [-1, 13, 10**30, -10**30]:
            for build in ((), ("a",), ("a", "b", "c", "d")):
                with self.assertRaises(NoNumber) as caught:
                    closed_without(full_book(), build, value)
                self.assertIs(caught.exception.value, value)

    def test_no_build_ahead_of_no_number(self):
        for value in no_builds("abcd"):
            for points in (3, 13, None):
                with self.assertRaises(NoBuild) as caught:
                    closed_without(full_book(), value, points)
                self.assertIs(caught.exception.build, value)


class NoBuildTest(unittest.TestCase):
    def test_of_functions_that_take_any_build(self):
        for value in no_builds("abcd"):
            for call in (comes, fewest_points):
                with self.assertRaises(NoBuild) as caught:
                    call(full_book(), value)
                self.assertIs(caught.exception.build, value)

    def test_of_way_to(self):
        book = full_book()
        bad = no_builds("abcd") + [build for build in all_builds("abcd") if not again.holds(book, build)]
        for value in bad:
            for one, other in ((value, ("a",)), (("a",), value), (value, value), (value, None)):
                with self.assertRaises(NoBuild) as caught:
                    way_to(book, one, other)
                self.assertIs(caught.exception.build, value)


class NamesTest(unittest.TestCase):
    def test_arguments_by_name(self):
        book = knot_book()
        self.assertEqual(reached(book=book), reached(book))
        self.assertIs(comes(book=book, build=("a", "b")), True)
        self.assertEqual(knots(book=book), [("a", "b")])
        self.assertEqual(way_to(book=book, one=(), other=("c",)), [("take", "c")])
        self.assertEqual(fewest_points(book=book, build=("a", "b")), 3)
        self.assertIsNone(closed_without(book=book, build=("a", "b"), points=3))


class ExampleTest(unittest.TestCase):
    def test_the_documents(self):
        book = Book([("a", 1), ("b", 1), ("c", 1)], 3, wants=[("any", "a", ("b", "c")), ("any", "b", ("a", "c"))])
        self.assertEqual((knots(book), fewest_points(book, ("a", "b")), closed_without(book, ("a", "b"), 2)),
                         ([("a", "b")], 3, [(), ("c",), ("a", "c"), ("b", "c")]))


if __name__ == "__main__":
    unittest.main()
