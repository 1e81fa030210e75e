"""[14], and the interface's heading "Stage 13": wants that are never needed, and books beside one another."""

import itertools
import unittest

from refundtrees.books import Book
from refundtrees.errors import NoBook, NoNumber
from refundtrees.idling import alike, idle_wants, is_enough, is_under, least_wants
from refundtrees.reach import reached
import tests_again as again
from tests_kit import (
    NAMES, Everything, flat, full_book, knot_book, odd_values, random_books, random_pairs, renamed, trap_book,
    twelve_book, twelve_plain_book, values_but_rows,
)


def books_with_wants():
    """Books of up to five skills with three wants or less, and others with more."""
    more = [("all", "c", ("a",)), ("any", "b", ("a", "c")), ("count", "d", ("a", "b", "c"), 2), ("any", "d", ("b",))]
    books = random_books(120)
    return books + [book.changed(wants=book.wants() + more) for book in books if len(book) >= 4][:30]


class IdleTest(unittest.TestCase):
    def test_no_wants(self):
        self.assertEqual(idle_wants(Book(flat(3), 3)), [])

    def test_a_want_said_twice(self):
        want = ("all", "b", ("a",))
        self.assertEqual(idle_wants(Book(flat(3), 3, wants=[want])), [])
        self.assertEqual(idle_wants(Book(flat(3), 3, wants=[want, ("any", "c", ("a",)), want])), [0, 2])

    def test_a_want_of_a_skill_that_cannot_be_taken_anyway(self):
        skills = [("a", 1), ("b", 1), ("c", 2)]
        book = Book(skills, 3, needs=[(2, 3)], wants=[("all", "c", ("a",)), ("all", "b", ("a",))])
        self.assertEqual(idle_wants(book), [0])
        self.assertEqual(idle_wants(book.changed(needs=[(2, 2)])), [0])
        self.assertEqual(idle_wants(book.changed(needs=[(2, 1)], wants=book.wants()[:1])), [])
        self.assertEqual(idle_wants(Book(flat(3), 0, wants=[("all", "c", ("a",))])), [0])

    def test_idle_each_by_itself_and_not_together(self):
        book = Book(flat(3), 3, wants=[("all", "c", ("a",)), ("any", "c", ("a",))])
        self.assertEqual(idle_wants(book), [0, 1])
        self.assertIs(is_enough(book, []), False)
        round_and_round = Book(flat(2), 2, wants=[("all", "a", ("b",)), ("all", "b", ("a",))])
        self.assertEqual(idle_wants(round_and_round), [])

    def test_what_holds_and_cannot_be_come_to_does_not_count(self):
        wants = [("all", "a", ("b",)), ("all", "b", ("a",)), ("all", "a", ("c",))]
        book = Book(flat(3), 3, wants=wants)
        self.assertTrue(again.holds(book.changed(wants=wants[:2]), ("a", "b")))
        self.assertFalse(again.holds(book, ("a", "b")))
        self.assertEqual(idle_wants(book), [2])

    def test_a_reset_does_not_count(self):
        for reset in (None, 0):
            self.assertEqual(idle_wants(trap_book(reset)), again_idle(trap_book(reset)))

    def test_against_the_document(self):
        seen = 0
        for book in books_with_wants():
            told = again_idle(book)
            self.assertEqual(idle_wants(book), told)
            seen += len(told)
        self.assertGreater(seen, 50)

    def test_without_an_idle_want_the_same_can_be_come_to(self):
        for book in books_with_wants():
            wants = book.wants()
            for index in idle_wants(book):
                self.assertEqual(reached(book.changed(wants=wants[:index] + wants[index + 1:])), reached(book))

    def test_a_book_of_twelve(self):
        for book in (twelve_book(), twelve_plain_book()):
            book = book.changed(wants=book.wants() + [("any", "l", ("a", "b")), ("all", "k", ("a",))])
            self.assertEqual(idle_wants(book), again_idle(book))
        wants = [("any", name, tuple(other for other in NAMES if other != name)) for name in NAMES]
        self.assertEqual(idle_wants(Book(flat(12), 12, wants=wants)), [])
        self.assertEqual(idle_wants(Book(flat(12), 12, wants=wants[:6] + wants[:6])), list(range(12)))


def again_idle(book):
    indexes = range(len(book.wants()))
    return [index for index in indexes if again.is_enough(book, [other for other in indexes if other != index])]


class EnoughTest(unittest.TestCase):
    def book(self):
        return Book(flat(3), 3, wants=[("all", "c", ("a",)), ("all", "b", ("a",)), ("all", "c", ("a", "b"))])

    def test_none_and_all(self):
        self.assertIs(is_enough(self.book(), []), False)
        self.assertIs(is_enough(self.book(), ()), False)
        self.assertIs(is_enough(self.book(), [0, 1, 2]), True)
        self.assertIs(is_enough(Book(flat(3), 3), []), True)
        self.assertIs(is_enough(Book(flat(3), 3), ()), True)
        self.assertIs(is_enough(Book(flat(3), 0, wants=[("all", "a", ("b",))]), []), True)

    def test_any_order_as_list_and_tuple(self):
        told = {(): False, (0,): False, (1,): False, (2,): False, (0, 1): False, (0, 2): False, (1, 2): True,
                (0, 1, 2): True}
        for part, enough in told.items():
            for indexes in itertools.permutations(part):
                self.assertIs(is_enough(self.book(), list(indexes)), enough)
                self.assertIs(is_enough(self.book(), indexes), enough)

    def test_against_the_document(self):
        for book in books_with_wants():
            indexes = range(len(book.wants()))
            for size in range(min(3, len(indexes)) + 1):
                for part in list(itertools.combinations(indexes, size))[:8]:
                    self.assertIs(is_enough(book, part), again.is_enough(book, part))

    def test_a_book_of_twelve(self):
        book = twelve_book()
        for part in ((), (0, 1, 2), (0, 1, 2, 3, 4, 5), (5, 3, 1)):
            self.assertIs(is_enough(book, part), again.is_enough(book, part))

    def test_what_are_no_indexes(self):
        wrong = values_but_rows() + [[0, 0], (1, 2, 1), [3], [-1], [0, 3], (10**30,), [True], [False], [0, True],
                                     ["0"], [None], [0.0], [[0]], ((0,),), [Everything()], (0, Everything())]
        for value in wrong:
            with self.assertRaises(NoNumber) as caught:
                is_enough(self.book(), value)
            self.assertIs(caught.exception.value, value)
        for value in ([0], (0,)):
            self.assertRaises(NoNumber, is_enough, Book(flat(3), 3), value)


class LeastTest(unittest.TestCase):
    def test_no_wants(self):
        self.assertEqual(least_wants(Book(flat(3), 3)), [()])
        self.assertEqual(least_wants(Book(flat(3), 0, wants=[("all", "c", ("a",))])), [()])

    def test_by_size_then_ascending(self):
        ab, c = ("all", "c", ("a", "b")), [("all", "c", ("a",)), ("all", "c", ("b",))]
        self.assertEqual(least_wants(Book(flat(3), 3, wants=[*c, ab])), [(2,), (0, 1)])
        self.assertEqual(least_wants(Book(flat(3), 3, wants=[*c, ab, *c])), [(2,), (0, 1), (0, 4), (1, 3), (3, 4)])
        self.assertEqual(least_wants(Book(flat(3), 3, wants=[ab, ab, *c])), [(0,), (1,), (2, 3)])

    def test_several_skills(self):
        wants = [("all", "b", ("a",)), ("any", "b", ("a",)), ("all", "c", ("a",)), ("any", "c", ("a",))]
        self.assertEqual(least_wants(Book(flat(3), 3, wants=wants)), [(0, 2), (0, 3), (1, 2), (1, 3)])

    def test_against_the_document(self):
        several = 0
        for book in books_with_wants():
            told = least_wants(book)
            self.assertEqual(told, again.least_wants(book))
            several += len(told) > 1
        self.assertGreater(several, 10)

    def test_they_are_lists_of_tuples(self):
        told = least_wants(Book(flat(2), 2, wants=[("all", "b", ("a",))]))
        self.assertEqual((type(told), type(told[0])), (list, tuple))
        told.clear()
        self.assertEqual(least_wants(Book(flat(2), 2, wants=[("all", "b", ("a",))])), [(0,)])

    def test_eight_wants_and_nine(self):
        one = ("all", "l", ("a",))
        for many in (7, 8):
            book = Book(flat(12), 12, wants=[one] * many)
            self.assertEqual(least_wants(book), [(index,) for index in range(many)])
        wants = [("all", name, ("a",)) for name in NAMES[1:9]]
        self.assertEqual(least_wants(Book(flat(12), 12, wants=wants)), [tuple(range(8))])
        for many in (9, 12):
            with self.assertRaises(NoBook) as caught:
                least_wants(Book(flat(12), 12, wants=[one] * many))
            self.assertEqual(caught.exception.part, "wants")
            self.assertEqual(idle_wants(Book(flat(12), 12, wants=[one] * many)), list(range(many)))

    def test_a_book_of_twelve(self):
        # Two in each pair are alike, so one of each is enough.
        wants = [("all", name, ("a",)) for name in "bcde"] + [("any", name, ("a",)) for name in "bcde"]
        book = Book(flat(12), 12, wants=wants)
        told = sorted(tuple(sorted(part)) for part in itertools.product(*[(index, index + 4) for index in range(4)]))
        self.assertEqual(least_wants(book), told)


class AlikeTest(unittest.TestCase):
    def test_names_in_any_order(self):
        one = Book(flat(3), 2, wants=[("all", "c", ("a",))])
        other = Book([("c", 1), ("b", 2), ("a", 2)], 2, wants=[("any", "c", ("a",))], prices=[("a", 9)], reset=4)
        self.assertIs(alike(one, other), True)
        self.assertIs(alike(other, one), True)
        self.assertIs(alike(one, one), True)
        self.assertIs(is_under(one, other), True)
        self.assertIs(is_under(other, one), True)

    def test_of_other_skills(self):
        one, other = Book(flat(2), 0), Book([("a", 1), ("x", 1)], 0)
        self.assertIs(alike(one, other), False)
        self.assertIs(alike(Book(flat(2), 0), Book(flat(3), 0)), False)
        self.assertIs(is_under(one, other), True)
        self.assertIs(is_under(Book(flat(2), 1), Book(flat(3), 1)), True)
        self.assertIs(is_under(Book(flat(3), 1), Book(flat(2), 1)), False)

    def test_one_lets_more(self):
        one, other = Book(flat(3), 2), Book([("c", 1), ("b", 1), ("a", 1)], 3)
        self.assertIs(alike(one, other), False)
        self.assertEqual((is_under(one, other), is_under(other, one)), (True, False))
        self.assertIs(is_under(Book(flat(3), 3, bars=[("a", "b")]), Book(flat(3), 3, bars=[("a", "c")])), False)

    def test_what_cannot_be_come_to_does_not_count(self):
        other = Book(flat(3), 1, wants=[("all", "a", ("b",)), ("all", "b", ("a",))])
        self.assertIs(alike(trap_book(), other), True)
        self.assertIs(alike(trap_book(0), other), True)
        self.assertIs(alike(knot_book(), knot_book().changed(points=2)), False)

    def test_against_the_document(self):
        counts = {}
        pairs = random_pairs(120) + list(itertools.combinations(random_books(24), 2))
        pairs += [(book, renamed(book, {name: name for name in book.names()})) for book in random_books(20)]
        for one, other in pairs:
            sets = [{frozenset(build) for build in again.reached(book)} for book in (one, other)]
            same = set(one.names()) == set(other.names())
            told = (same and sets[0] == sets[1], sets[0] <= sets[1])
            self.assertEqual((alike(one, other), is_under(one, other)), told)
            counts[told] = counts.get(told, 0) + 1
        self.assertEqual(len(counts), 3)

    def test_books_of_twelve(self):
        book = twelve_book()
        other = renamed(book, {name: name for name in NAMES})
        self.assertNotEqual(book.names(), other.names())
        self.assertIs(alike(book, other), True)
        self.assertIs(alike(book, other.changed(points=7)), False)
        self.assertEqual((is_under(other.changed(points=7), book), is_under(book, other.changed(points=7))),
                         (True, False))
        self.assertIs(is_under(book, Book(flat(12), 12)), True)


class NamesTest(unittest.TestCase):
    def test_arguments_by_name(self):
        book = Book(flat(2), 2, wants=[("all", "b", ("a",)), ("all", "b", ("a",))])
        self.assertEqual((idle_wants(book=book), least_wants(book=book)), ([0, 1], [(0,), (1,)]))
        self.assertIs(is_enough(indexes=[1], book=book), True)
        self.assertIs(alike(other=book, one=full_book()), False)
        self.assertIs(is_under(other=Book(flat(2), 2), one=book), True)

    def test_nothing_else_is_a_list_of_indexes(self):
        for value in odd_values():
            self.assertRaises(NoNumber, is_enough, full_book(), value)


if __name__ == "__main__":
    unittest.main()
