"""[1] and the interface's heading "Stage 1": what a book tells, what equals it, and changed()."""

import unittest
from unittest import mock

from refundtrees.books import Book
from refundtrees.builds import Build
from refundtrees.errors import NoBook, NoNumber, NoSkill
from tests_kit import FULL, NAMES, flat, full_book, odd_values, random_book, values_but_numbers

LISTS = ["skills", "needs", "wants", "bars", "gives", "prices"]

NO_SKILLS = ["", "x", "A", "aa", "ab", 0, 1, -1, [], ["a"], (), ("a",), ("a", 1), [("a", 1)]]


class ToldTest(unittest.TestCase):
    def test_told_as_handed_in(self):
        book = full_book()
        for part in LISTS:
            with self.subTest(part):
                self.assertEqual(getattr(book, part)(), FULL[part])
                self.assertIs(type(getattr(book, part)()), list)
        self.assertEqual((book.points, book.reset), (5, 7))

    def test_tuples_are_told_as_lists(self):
        book = Book(**{part: tuple(value) if part in LISTS else value for part, value in FULL.items()})
        for part in LISTS:
            with self.subTest(part):
                self.assertEqual(getattr(book, part)(), FULL[part])
                self.assertIs(type(getattr(book, part)()), list)

    def test_what_is_not_told(self):
        book = Book([("a", 1)], 0)
        for part in LISTS[1:]:
            self.assertEqual(getattr(book, part)(), [])
        self.assertEqual((book.skills(), book.points, book.reset), ([("a", 1)], 0, None))
        self.assertEqual((book.need_of(2), book.price_of("a"), book.given_by("a"), book.wants_of("a")), (0, 1, 0, []))

    def test_skills_and_points_by_position_or_name(self):
        skills = [("a", 1), ("b", 2)]
        self.assertEqual(Book(skills, 3), Book(skills=skills, points=3))
        self.assertEqual(Book(skills, points=3), Book(points=3, skills=skills))

    def test_names_are_in_order(self):
        book = Book([("c", 1), ("a", 1), ("b", 2)], 3)
        for told in (book.names(), book.listed(), list(book), [name for name in book]):
            self.assertEqual(told, ["c", "a", "b"])
            self.assertIs(type(told), list)
        self.assertEqual(len(book), 3)
        self.assertEqual([len(Book(flat(many), 0)) for many in range(1, 13)], list(range(1, 13)))

    def test_a_book_is_iterated_over_again_and_again(self):
        book = full_book()
        self.assertEqual([(one, other) for one in book for other in book],
                         [(one, other) for one in "abcd" for other in "abcd"])

    def test_need_of(self):
        book = full_book()
        self.assertEqual([book.need_of(tier) for tier in (1, 2, 3, 4)], [0, 1, 0, 3])
        self.assertEqual(book.need_of(tier=4), 3)
        self.assertEqual(Book([("a", 1)], 0, needs=[(3, 12)]).need_of(3), 12)

    def test_need_of_what_is_no_tier(self):
        for value in [0, 5, -1, 12, 10**30] + values_but_numbers():
            for call in (lambda: full_book().need_of(value), lambda: full_book().need_of(tier=value)):
                with self.assertRaises(NoNumber) as caught:
                    call()
                self.assertIs(caught.exception.value, value)

    def test_tier_price_and_gives(self):
        book = full_book()
        self.assertEqual([book[name] for name in "abcd"], [1, 1, 2, 3])
        self.assertEqual([book.price_of(name) for name in "abcd"], [99, 1, 0, 1])
        self.assertEqual([book.given_by(name) for name in "abcd"], [1, 0, 0, 3])
        self.assertEqual((book.price_of(skill="c"), book.given_by(skill="d")), (0, 3))

    def test_wants_of(self):
        book = full_book()
        self.assertEqual(book.wants_of("a"), [])
        self.assertEqual(book.wants_of("c"), [("all", "c", ("a", "b"))])
        self.assertEqual(book.wants_of(skill="d"),
                         [("any", "d", ("c", "a")), ("count", "d", ("a", "b", "c"), 2)])
        row = ("any", "b", ("a",))
        self.assertEqual(Book(flat(2), 1, wants=[row, row]).wants_of("b"), [row, row])

    def test_what_is_no_skill(self):
        book = full_book()
        calls = [book.price_of, book.given_by, book.wants_of, book.__getitem__, lambda value: book[value],
                 lambda value: book.price_of(skill=value), lambda value: book.given_by(skill=value),
                 lambda value: book.wants_of(skill=value)]
        for value in NO_SKILLS + odd_values():
            for call in calls:
                with self.assertRaises(NoSkill) as caught:
                    call(value)
                self.assertIs(caught.exception.skill, value)

    def test_skill_in_book(self):
        book = full_book()
        for name in "abcd":
            self.assertIs(name in book, True)
        for value in NO_SKILLS + odd_values() + [mock.ANY]:
            self.assertIs(value in book, False)
            self.assertIs(value not in book, True)


class CopiesTest(unittest.TestCase):
    def test_what_was_handed_in_is_changed_behind(self):
        handed = {part: list(value) if part in LISTS else value for part, value in FULL.items()}
        book = Book(**handed)
        for part in LISTS:
            handed[part].clear()
            handed[part].append(("x", 1))
        self.same(book)

    def test_what_was_told_is_changed_behind(self):
        book = full_book()
        tellers = [getattr(book, part) for part in LISTS] + [
            book.names, book.listed, lambda: book.wants_of("d"), lambda: book.wants_of("a"),
        ]
        for tell in tellers:
            ahead = tell()
            kept = list(ahead)
            self.assertIsNot(tell(), ahead)
            ahead.append("x")
            ahead.reverse()
            self.assertEqual(tell(), kept)
        self.same(book)

    def same(self, book):
        self.assertEqual(book, full_book())
        self.assertEqual(book.names(), ["a", "b", "c", "d"])
        self.assertEqual([book[name] for name in book], [1, 1, 2, 3])
        self.assertEqual([book.price_of(name) for name in book], [99, 1, 0, 1])
        self.assertEqual([book.given_by(name) for name in book], [1, 0, 0, 3])
        self.assertEqual([book.need_of(tier) for tier in (1, 2, 3, 4)], [0, 1, 0, 3])
        self.assertEqual([len(book.wants_of(name)) for name in book], [0, 0, 1, 2])
        for part in LISTS:
            self.assertEqual(getattr(book, part)(), FULL[part])

    def test_points_and_reset_are_only_told(self):
        book = full_book()
        for name in ("points", "reset"):
            with self.assertRaises(AttributeError):
                setattr(book, name, 1)
        self.same(book)

    def test_a_call_that_raises_changes_nothing(self):
        book = full_book()
        for call in (lambda: book.changed(points=13), lambda: book.changed(x=1), lambda: book["x"],
                     lambda: book.need_of(0), lambda: book.price_of("x"), lambda: Book.__init__(book, [], 3)):
            with self.assertRaises(ValueError):
                call()
        self.same(book)

    def test_like_calls_tell_the_same(self):
        for seed in range(50):
            one, other = random_book(seed), random_book(seed)
            self.assertEqual(one, other)
            for part in LISTS:
                self.assertEqual(getattr(one, part)(), getattr(other, part)())
                self.assertEqual(getattr(one, part)(), getattr(one, part)())


class EqualTest(unittest.TestCase):
    def test_equal_books(self):
        self.assertEqual(full_book(), full_book())
        self.assertIs(full_book() == full_book(), True)
        self.assertIs(full_book() != full_book(), False)
        tuples = Book(**{part: tuple(value) if part in LISTS else value for part, value in FULL.items()})
        self.assertEqual(full_book(), tuples)

    def test_each_part_counts(self):
        others = {
            "skills": [("a", 1), ("b", 2), ("c", 2), ("d", 3)], "points": 4, "needs": [(2, 1)], "wants": [],
            "bars": [("c", "d")], "gives": [("d", 2), ("a", 1)], "prices": [("c", 0)], "reset": None,
        }
        for part, value in others.items():
            one = Book(**{**FULL, part: value})
            with self.subTest(part):
                self.assertIs(one == full_book(), False)
                self.assertIs(full_book() == one, False)
                self.assertIs(one != full_book(), True)

    def test_parts_count_as_told(self):
        for part in ("wants", "bars", "gives", "prices"):
            self.assertNotEqual(full_book(), full_book().changed(**{part: FULL[part][::-1]}), part)
        self.assertNotEqual(full_book(), full_book().changed(bars=[("a", "b"), ("c", "d")]))
        self.assertNotEqual(Book(flat(2), 3), Book(flat(2), 3, needs=[(2, 0)]))
        self.assertNotEqual(Book(flat(2), 3), Book(flat(2), 3, prices=[("a", 1)]))
        self.assertNotEqual(Book(flat(2), 3, wants=[("all", "a", ("b",))]),
                            Book(flat(2), 3, wants=[("any", "a", ("b",))]))
        self.assertNotEqual(Book(flat(3), 3, wants=[("all", "a", ("b", "c"))]),
                            Book(flat(3), 3, wants=[("all", "a", ("c", "b"))]))
        self.assertNotEqual(Book(flat(2), 3), Book(flat(2)[::-1], 3))
        self.assertNotEqual(Book(flat(2), 3), Book(flat(2), 3, reset=0))

    def test_books_equal_nothing_else(self):
        book = full_book()
        others = odd_values() + [mock.ANY, [], (), "", 0, 1, book.names(), tuple(book), book.skills(), Build(book), FULL]
        for other in others:
            self.assertIs(book == other, False)
            self.assertIs(book != other, True)


class ChangedTest(unittest.TestCase):
    def test_nothing_told_gives_an_equal_book(self):
        book = full_book()
        self.assertEqual(book.changed(), book)
        self.assertIsNot(book.changed(), book)

    def test_each_part_alone(self):
        others = {
            "skills": [("a", 1), ("b", 1), ("c", 1), ("d", 1), ("e", 1)], "points": 0, "needs": (), "wants": [],
            "bars": [("a", "d")], "gives": [("b", 1)], "prices": (("b", 9),), "reset": None,
        }
        for part, value in others.items():
            book = full_book()
            with self.subTest(part):
                self.assertEqual(book.changed(**{part: value}), Book(**{**FULL, part: value}))
                self.assertEqual(book, full_book())

    def test_all_parts_at_once(self):
        told = {"skills": flat(1), "points": 1, "needs": [], "wants": [], "bars": [], "gives": [], "prices": [],
                "reset": 3}
        book = full_book().changed(**told)
        self.assertEqual(book, Book(**told))
        self.assertEqual((book.names(), book["a"], book.price_of("a"), book.given_by("a")), (["a"], 1, 1, 0))

    def test_what_was_handed_in_is_changed_behind(self):
        prices = [("a", 5)]
        book = full_book().changed(prices=prices)
        prices.append(("b", 5))
        self.assertEqual((book.prices(), book.price_of("b")), ([("a", 5)], 1))

    def test_raises_as_a_book_does(self):
        wrong = {"skills": [], "points": True, "needs": [(1, 1)], "wants": [("all", "a", ())],
                 "bars": [("a", "a")], "gives": [("a", 4)], "prices": [("a", -1)], "reset": False}
        for at, part in enumerate(wrong):
            self.told_of({part: wrong[part]}, part)
            self.told_of(dict(list(wrong.items())[at:][::-1]), part)

    def test_parts_that_fit_no_more(self):
        self.told_of({"skills": flat(3)}, "wants")
        self.told_of({"skills": flat(3), "wants": ()}, "bars")
        self.told_of({"skills": flat(3), "wants": (), "bars": ()}, "gives")
        self.told_of({"skills": [("a", 1), ("b", 1)], "wants": (), "bars": (), "gives": ()}, "prices")
        self.told_of({"skills": flat(3), "prices": 0}, "wants")

    def test_names_that_are_no_parameter(self):
        self.told_of({"x": 1}, "x")
        self.told_of({"price": 1, "names": 2}, "names")
        self.told_of({"names": 2, "price": 1}, "names")
        self.told_of({"skills": [], "points": 13, "zzz": None}, "zzz")
        self.told_of({"zzz": None, "Points": 3, "points": 13, "": 1, "bar": 2}, "")
        self.told_of({"zzz": None, "Points": 3, "bar": 2}, "Points")
        self.told_of({"_parts": (), "book": 1}, "_parts")
        self.told_of({"part": "points"}, "part")

    def told_of(self, parts, name):
        book = full_book()
        with self.subTest(parts), self.assertRaises(NoBook) as caught:
            book.changed(**parts)
        self.assertEqual(caught.exception.part, name)
        self.assertEqual(book, full_book())


class ExamplesTest(unittest.TestCase):
    def test_the_books_of_the_examples(self):
        skills = [("a", 1), ("b", 1), ("c", 1), ("d", 1), ("e", 2), ("f", 2)]
        book = Book(skills, 3, needs=[(2, 2)])
        self.assertEqual(book.changed(points=4), Book(skills, 4, needs=[(2, 2)]))
        self.assertEqual((book["f"], book.need_of(2), book.reset), (2, 2, None))
        dear = Book(skills, 5, needs=[(2, 2)], prices=[("e", 5)], reset=4)
        self.assertEqual(([dear.price_of(name) for name in dear], dear.reset), ([1, 1, 1, 1, 5, 1], 4))
        knot = Book(flat(3), 3, wants=[("any", "a", ("b", "c")), ("any", "b", ("a", "c"))])
        self.assertEqual(knot.wants_of("b"), [("any", "b", ("a", "c"))])

    def test_the_greatest_book(self):
        wants = [("count", name, tuple(other for other in NAMES if other != name), 11) for name in NAMES]
        bars = [("a", name) for name in "bcdefg"]
        book = Book(flat(12, 4), 12, needs=[(2, 12), (3, 12), (4, 12)], wants=wants, bars=bars,
                    gives=[(name, 3) for name in NAMES], prices=[(name, 99) for name in NAMES], reset=99)
        self.assertEqual((len(book), len(book.wants()), book.bars()), (12, 12, bars))
        self.assertEqual(book.changed(), book)


if __name__ == "__main__":
    unittest.main()
