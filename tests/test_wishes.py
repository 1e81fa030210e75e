"""[10], and the interface's heading "Stage 9": wishes that are open, takes that leave them so, waiting."""

import unittest

from refundtrees.books import Book
from refundtrees.errors import NoBuild, NoNumber, NoWish
from refundtrees.wishes import free_takes, levels, open_wishes, waits
import tests_again as again
from tests_kit import (
    all_builds, flat, full_book, no_builds, odd_values, random_books, trap_book, twelve_book, values_but_numbers,
    values_but_rows,
)

CALLS = (open_wishes, free_takes, waits)


def tier_book(points=3):
    """The book of the document's first example."""
    return Book([("a", 1), ("b", 1), ("c", 1), ("d", 1), ("e", 2), ("f", 2)], points, needs=[(2, 2)], reset=0)


def bar_book():
    """A book in which taking one skill may close what another one opens."""
    return Book(flat(4), 4, bars=[("a", "b"), ("c", "d")])


def some_wishes(builds, seed):
    """One to four of some builds, among them one twice now and then, as a list or a tuple."""
    wishes = [builds[(seed * step + step) % len(builds)] for step in (3, 7, 11, 3)][: 1 + seed % 4]
    return tuple(wishes) if seed % 2 else wishes


def no_wishes(builds, bad):
    """Values that are not one to four builds that hold; bad is a build that does not."""
    good = builds[0]
    return values_but_rows() + [[], (), [good] * 5, (good,) * 5, [bad], (good, bad), [good, good, good, bad], [[]],
                                [list(builds[-1])], [None], ["a"], good or ("a",), {good: good}, [good, None]]


class OpenTest(unittest.TestCase):
    def test_no_give_backs(self):
        book = tier_book()
        wishes = [("a", "b"), ("a", "b", "e"), ("a",), ("c",)]
        self.assertEqual(open_wishes(book, ("a",), wishes, 0), [("a", "b"), ("a", "b", "e"), ("a",)])
        self.assertEqual(open_wishes(book, (), wishes, 0), wishes)

    def test_as_many_as_needed_and_one_less(self):
        book = tier_book()
        for many in range(5):
            told = [wish for wish, least in ((("a", "c", "e"), 2), (("a",), 2), ((), 3)) if least <= many]
            self.assertEqual(open_wishes(book, ("a", "b", "e"), [("a", "c", "e"), ("a",), ()], many), told)
        self.assertEqual(open_wishes(tier_book(4), ("a", "b", "e"), [("a", "c", "e")], 1), [("a", "c", "e")])

    def test_in_their_order_and_one_twice_told_twice(self):
        book = Book(flat(3), 3)
        wishes = [("c",), ("a", "b", "c"), ("c",), ("a",)]
        self.assertEqual(open_wishes(book, (), wishes, 0), wishes)
        self.assertEqual(open_wishes(book, ("b",), wishes, 1), wishes)
        self.assertEqual(open_wishes(book, ("b",), wishes, 0), [("a", "b", "c")])
        self.assertEqual(open_wishes(book, ("a", "c"), wishes, 1), wishes)

    def test_one_to_four_as_list_and_tuple(self):
        book = Book(flat(4), 4)
        wishes = [("a",), ("b",), ("a", "c"), ("d",)]
        for many in range(1, 5):
            self.assertEqual(open_wishes(book, (), wishes[:many], 0), wishes[:many])
            self.assertEqual(open_wishes(book, (), tuple(wishes[:many]), 0), wishes[:many])

    def test_a_wish_that_no_way_leads_to(self):
        for reset in (None, 0):
            self.assertEqual(open_wishes(trap_book(reset), (), [("a", "b"), ("c",)], 99), [("c",)])
            self.assertEqual(open_wishes(trap_book(reset), ("a", "b"), [(), ("a", "b")], 10**30), [("a", "b")])

    def test_the_build_itself(self):
        for book in random_books(30):
            for build in again.good_builds(book):
                self.assertEqual(open_wishes(book, build, [build], 0), [build])

    def test_a_reset_does_not_count(self):
        self.assertEqual(open_wishes(tier_book(), ("a", "b"), [()], 1), [])

    def test_against_the_document(self):
        for seed, book in enumerate(random_books(60)):
            table = again.all_moves(book)
            wishes = some_wishes(list(table), seed)
            for build in table:
                for many in range(4):
                    told = again.open_wishes(table, build, wishes, many)
                    self.assertEqual(open_wishes(book, build, wishes, many), told)

    def test_a_book_of_twelve(self):
        book = twelve_book()
        table = again.all_moves(book)
        wishes = list(table)[60:180:32]
        least = [again.least_to(table, wish, again.give_backs) for wish in wishes]
        for build in list(table)[::25]:
            for many in (0, 2, 4):
                told = [wish for wish, gives in zip(wishes, least) if gives.get(build, 99) <= many]
                self.assertEqual(open_wishes(book, build, wishes, many), told)

    def test_a_new_list(self):
        wishes = [("a",)]
        told = open_wishes(Book(flat(2), 2), (), wishes, 0)
        told.clear()
        self.assertEqual(wishes, [("a",)])
        self.assertEqual(open_wishes(Book(flat(2), 2), (), wishes, 0), [("a",)])


class FreeTakesTest(unittest.TestCase):
    def test_in_the_order_of_the_book(self):
        book = Book([("c", 1), ("a", 1), ("b", 1)], 3)
        self.assertEqual(free_takes(book, (), [("c", "a", "b")], 0), ["c", "a", "b"])
        self.assertEqual(free_takes(book, ("a",), [("c", "a", "b")], 0), ["c", "b"])

    def test_a_take_that_closes_one_wish_of_several(self):
        book = bar_book()
        self.assertEqual(free_takes(book, (), [("a", "c")], 0), ["a", "c"])
        self.assertEqual(free_takes(book, (), [("a", "c"), ("b", "c")], 0), ["c"])
        self.assertEqual(free_takes(book, (), [("a", "c"), ("b", "d")], 0), [])
        self.assertEqual(free_takes(book, (), [("a", "c"), ("b", "c")], 1), ["a", "b", "c", "d"])

    def test_points_run_out(self):
        book = Book(flat(4), 2)
        self.assertEqual(free_takes(book, (), [("a", "b"), ("a", "c")], 0), ["a"])
        self.assertEqual(free_takes(book, ("d",), [("a", "b"), ("a", "c")], 1), ["a"])
        self.assertEqual(free_takes(book, ("d",), [("a", "b"), ("a", "c")], 2), ["a", "b", "c"])

    def test_what_is_open_to_no_take(self):
        self.assertEqual(free_takes(Book(flat(2), 2), (), [()], 0), [])
        self.assertEqual(free_takes(Book(flat(2), 2), ("a", "b"), [("a", "b")], 5), [])
        self.assertEqual(free_takes(trap_book(0), (), [("a", "b")], 5), [])

    def test_against_the_document(self):
        for seed, book in enumerate(random_books(60)):
            table = again.all_moves(book)
            wishes = some_wishes(list(table), seed)
            for build in table:
                for many in range(3):
                    told = again.free_takes(table, build, wishes, many)
                    self.assertEqual(free_takes(book, build, wishes, many), told)

    def test_a_book_of_twelve(self):
        book = twelve_book()
        table = again.all_moves(book)
        wishes = list(table)[100:160:20]
        least = [again.least_to(table, wish, again.give_backs) for wish in wishes]
        for build in list(table)[::30]:
            for many in (0, 2):
                told = [step[1] for step, _, behind in table[build]
                        if step[0] == "take" and all(gives.get(behind, 99) <= many for gives in least)]
                self.assertEqual(free_takes(book, build, wishes, many), told)


class WaitsTest(unittest.TestCase):
    def test_where_a_take_is_free(self):
        self.assertIs(waits(bar_book(), (), [("a", "c"), ("b", "c")], 0), False)

    def test_where_none_is(self):
        self.assertIs(waits(bar_book(), (), [("a", "c"), ("b", "d")], 0), True)
        self.assertIs(waits(bar_book(), ("c",), [("a", "c"), ("b", "c")], 0), True)
        self.assertIs(waits(Book(flat(2), 2), ("a", "b"), [("a",)], 1), True)

    def test_where_one_wish_is_not_open(self):
        self.assertIs(waits(bar_book(), ("c",), [("a", "c"), ("b", "d")], 0), False)
        self.assertIs(waits(bar_book(), ("a", "c"), [("c",), ("b", "d")], 1), False)
        self.assertIs(waits(bar_book(), ("a", "c"), [("c",), ("b", "d")], 2), True)
        self.assertIs(waits(trap_book(0), (), [("a", "b")], 9), False)

    def test_where_the_build_is_one_of_the_wishes(self):
        self.assertIs(waits(bar_book(), ("c",), [("a", "c"), ("b", "c"), ("c",)], 0), False)
        self.assertIs(waits(bar_book(), ("c",), (("c",), ("a", "c"), ("b", "c")), 0), False)
        self.assertIs(waits(Book(flat(2), 2), ("a", "b"), [("a", "b")], 1), False)

    def test_against_the_document(self):
        seen = {True: 0, False: 0}
        for seed, book in enumerate(random_books(80)):
            table = again.all_moves(book)
            wishes = some_wishes(list(table), seed)
            for build in table:
                for many in range(3):
                    are_open = again.open_wishes(table, build, wishes, many) == list(wishes)
                    free = again.free_takes(table, build, wishes, many)
                    told = are_open and not free and build not in wishes
                    self.assertIs(waits(book, build, wishes, many), told)
                    seen[told] += 1
        self.assertGreater(min(seen.values()), 50)


class LevelsTest(unittest.TestCase):
    def test_open_with_the_points_of_the_book(self):
        self.assertEqual(levels(tier_book(), ("a", "b", "e"), ("a", "c", "e"), 2, 12), 3)
        self.assertEqual(levels(tier_book(), ("a", "b", "e"), ("a", "c", "e"), 2, 3), 3)
        self.assertEqual(levels(tier_book(), ("a",), ("a",), 0, 5), 3)

    def test_open_with_one_or_two_more(self):
        self.assertEqual(levels(tier_book(), ("a", "b", "e"), ("a", "c", "e"), 1, 12), 4)
        self.assertEqual(levels(tier_book(), ("a", "b", "e"), ("a", "c", "e"), 1, 4), 4)
        self.assertEqual(levels(tier_book(2), ("a", "b"), ("a", "b", "c", "d"), 0, 6), 4)

    def test_none_up_to_the_last_ones(self):
        self.assertIsNone(levels(tier_book(), ("a", "b", "e"), ("a", "c", "e"), 1, 3))
        self.assertIsNone(levels(tier_book(), ("a", "b", "e"), ("a", "c", "e"), 0, 12))
        self.assertIsNone(levels(trap_book(0), (), ("a", "b"), 9, 12))

    def test_a_wish_that_holds_with_the_last_points_alone(self):
        self.assertEqual(levels(Book(flat(4), 1), ("a",), ("a", "b", "c"), 0, 3), 3)
        self.assertEqual(levels(Book(flat(4), 0), (), ("a", "b", "c", "d"), 0, 4), 4)

    def test_against_the_document(self):
        for seed, book in enumerate(random_books(40)):
            last = min(12, book.points + 3)
            tables = [(points, again.all_moves(book.changed(points=points)))
                      for points in range(book.points, last + 1)]
            wishes = list(tables[-1][1])
            for wish in wishes[seed % 3 :: 3]:
                least = [(points, again.least_to(table, wish, again.give_backs))
                         for points, table in tables if wish in table]
                for build in tables[0][1]:
                    for many in range(3):
                        told = [points for points, gives in least if gives.get(build, 99) <= many]
                        self.assertEqual(levels(book, build, wish, many, last), told[0] if told else None)

    def test_a_book_of_twelve(self):
        book = twelve_book().changed(points=2)
        tables = [(points, again.all_moves(book.changed(points=points))) for points in range(2, 7)]
        wishes = list(tables[-1][1])[30::25]
        for wish in wishes:
            least = [(points, again.least_to(table, wish, again.give_backs))
                     for points, table in tables if wish in table]
            for build in tables[0][1]:
                told = [points for points, gives in least if gives.get(build, 99) <= 1]
                self.assertEqual(levels(book, build, wish, 1, 6), told[0] if told else None)
        self.assertEqual(levels(Book(flat(12), 2), (), tuple("abcdefghijkl"), 0, 12), 12)
        self.assertEqual(levels(Book(flat(12), 0), (), tuple("abcdefghij"), 3, 12), 10)


class WrongTest(unittest.TestCase):
    def raises(self, error, attribute, value, call):
        with self.assertRaises(error) as caught:
            call()
        self.assertIs(getattr(caught.exception, attribute), value)

    def test_what_is_no_build_that_holds(self):
        book = full_book()
        bad = [build for build in all_builds("abcd") if not again.holds(book, build)]
        for value in no_builds("abcd") + bad:
            for call in CALLS:
                self.raises(NoBuild, "build", value, lambda: call(book, value, None, None))
                self.raises(NoBuild, "build", value, lambda: call(book, value, [()], 0))
            self.raises(NoBuild, "build", value, lambda: levels(book, value, None, None, None))
            self.raises(NoBuild, "build", value, lambda: levels(book, value, (), 0, 12))

    def test_what_are_no_wishes(self):
        for book in (full_book(), Book(flat(3), 1)):
            bad = [build for build in all_builds(book.names()) if not again.holds(book, build)][0]
            for value in no_wishes(again.good_builds(book), bad):
                for call in CALLS:
                    self.raises(NoWish, "wishes", value, lambda: call(book, (), value, None))
                    self.raises(NoWish, "wishes", value, lambda: call(book, (), value, 0))

    def test_what_is_no_number(self):
        for value in values_but_numbers() + [-1, -(10**30)]:
            for call in CALLS:
                self.raises(NoNumber, "value", value, lambda: call(full_book(), (), [()], value))
            self.raises(NoNumber, "value", value, lambda: levels(full_book(), (), (), value, 12))

    def test_what_are_no_last_points(self):
        for value in values_but_numbers() + [-1, 0, 1, 4, 13, 10**30]:
            self.raises(NoNumber, "value", value, lambda: levels(full_book(), (), None, None, value))
            self.raises(NoNumber, "value", value, lambda: levels(full_book(), (), (), 0, value))
        for last in range(5, 13):
            self.assertEqual(levels(full_book(), (), (), 0, last), 5)

    def test_what_is_no_wish_with_the_last_points(self):
        book = Book(flat(3), 1, bars=[("a", "b")])
        for value in no_builds("abc") + [("a", "b"), ("a", "b", "c")]:
            self.raises(NoWish, "wishes", value, lambda: levels(book, (), value, None, 12))
            self.raises(NoWish, "wishes", value, lambda: levels(book, (), value, 0, 12))
        wish = ("a", "c")
        self.raises(NoWish, "wishes", wish, lambda: levels(book, (), wish, 0, 1))
        self.assertEqual(levels(book, (), wish, 0, 2), 2)

    def test_true_and_false_are_no_numbers(self):
        book = Book(flat(2), 0)
        for value in odd_values()[1:3]:
            self.raises(NoNumber, "value", value, lambda: levels(book, (), (), 0, value))
            self.raises(NoNumber, "value", value, lambda: open_wishes(book, (), [()], value))


class NamesTest(unittest.TestCase):
    def test_arguments_by_name(self):
        book = Book(flat(4), 2)
        self.assertEqual(open_wishes(many=0, wishes=[("a",), ("b", "c")], build=("b",), book=book), [("b", "c")])
        self.assertEqual(free_takes(many=0, wishes=[("a", "b")], build=(), book=book), ["a", "b"])
        self.assertIs(waits(many=0, wishes=[("a", "b")], build=(), book=book), False)
        self.assertEqual(levels(last=4, many=0, wish=("a", "b", "c"), build=("a",), book=book), 3)


if __name__ == "__main__":
    unittest.main()
