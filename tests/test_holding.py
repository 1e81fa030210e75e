"""[2], [3] and the interface's heading "Stage 3": what holds, what lacks, and the possible steps."""

import unittest

from refundtrees.books import Book
from refundtrees.builds import Build
from refundtrees.errors import NoBuild, NoSkill, NoStep
from refundtrees.holding import behind, holds, is_met, lacks, price_of_step, size_let, steps
import tests_again as again
from tests_kit import (
    NAMES, all_builds, flat, full_book, no_builds, no_steps, odd_values, random_books, twelve_book,
)


class HoldsTest(unittest.TestCase):
    def test_against_the_document(self):
        seen = [0, 0]
        for book in random_books(150):
            for build in all_builds(book.names()):
                answer = holds(book, build)
                self.assertIs(answer, again.holds(book, build))
                self.assertIs(answer, lacks(book, build) == [])
                self.assertIs(answer, Build(book, build).is_good())
                seen[answer] += 1
        self.assertGreater(min(seen), 1000)

    def test_the_empty_build_holds(self):
        self.assertIs(holds(Book(flat(1, 4), 0, needs=[(4, 12)]), ()), True)

    def test_a_book_of_twelve(self):
        book = twelve_book()
        answers = [holds(book, build) for build in all_builds(NAMES)]
        self.assertEqual(answers, [again.holds(book, build) for build in all_builds(NAMES)])
        self.assertIs(holds(Book(flat(12), 12), tuple(NAMES)), True)
        self.assertIs(holds(Book(flat(12), 11), tuple(NAMES)), False)


class LacksTest(unittest.TestCase):
    def test_nothing(self):
        self.assertEqual(lacks(full_book(), ()), [])
        self.assertEqual(lacks(full_book(), ("a",)), [])

    def test_tier_ahead_of_the_kinds_in_their_order(self):
        wants = [("count", "c", ("a", "b"), 2), ("any", "c", ("a", "b")), ("all", "c", ("a",)), ("any", "b", ("a",))]
        book = Book([("a", 1), ("b", 1), ("c", 2)], 3, needs=[(2, 1)], wants=wants)
        self.assertEqual(lacks(book, ("c",)), [("c", "tier"), ("c", "count"), ("c", "any"), ("c", "all")])
        self.assertEqual(lacks(book, ("b", "c")), [("b", "any"), ("c", "count"), ("c", "all")])
        self.assertEqual(lacks(book, ("a", "c")), [("c", "count")])

    def test_each_pair_once(self):
        wants = [("any", "c", ("a",)), ("all", "c", ("b",)), ("any", "c", ("b",)), ("all", "c", ("a",))]
        book = Book(flat(3), 3, wants=wants)
        self.assertEqual(lacks(book, ("c",)), [("c", "any"), ("c", "all")])
        self.assertEqual(lacks(book, ("a", "c")), [("c", "all"), ("c", "any")])
        row = ("any", "b", ("a",))
        self.assertEqual(lacks(Book(flat(2), 2, wants=[row, row]), ("b",)), [("b", "any")])

    def test_skills_in_the_order_of_the_book(self):
        book = Book([("c", 1), ("a", 1), ("b", 1)], 3,
                    wants=[("all", "b", ("c",)), ("all", "a", ("c",)), ("any", "c", ("a",))])
        self.assertEqual(lacks(book, ("a", "b")), [("a", "all"), ("b", "all")])
        self.assertEqual(lacks(book, ("c", "b")), [("c", "any")])

    def test_all_bars_in_order_behind_the_skills(self):
        book = Book(flat(4), 4, bars=[("d", "a"), ("b", "c"), ("a", "c")], wants=[("any", "d", ("b",))])
        self.assertEqual(lacks(book, ("a", "c", "d")), [("d", "any"), ("bar", ("d", "a")), ("bar", ("a", "c"))])
        self.assertEqual(lacks(book, ("a", "b", "c", "d")),
                         [("bar", ("d", "a")), ("bar", ("b", "c")), ("bar", ("a", "c"))])

    def test_points_last(self):
        book = Book(flat(4), 1, bars=[("a", "b")], wants=[("all", "c", ("d",))])
        self.assertEqual(lacks(book, ("a", "b", "c")), [("c", "all"), ("bar", ("a", "b")), ("points", 2)])
        self.assertEqual(lacks(book, ("c", "d")), [("points", 1)])
        self.assertEqual(lacks(book, ("d",)), [])

    def test_points_that_skills_give(self):
        book = Book(flat(4), 0, gives=[("d", 2)])
        self.assertEqual(lacks(book, ("a", "b", "c", "d")), [("points", 2)])
        self.assertEqual(lacks(book, ("a", "d")), [])
        self.assertEqual(lacks(book, ("a", "b")), [("points", 2)])

    def test_a_skill_and_a_word_of_one_name(self):
        book = Book([("bar", 1), ("points", 2)], 0, needs=[(2, 1)], bars=[("bar", "points")],
                    wants=[("all", "points", ("bar",))])
        self.assertEqual(lacks(book, ("points",)), [("points", "tier"), ("points", "all"), ("points", 1)])
        self.assertEqual(lacks(book, ("bar", "points")), [("bar", ("bar", "points")), ("points", 2)])

    def test_against_the_document(self):
        for book in random_books(150):
            for build in all_builds(book.names()):
                self.assertEqual(lacks(book, build), self.told(book, build))

    def told(self, book, build):
        pairs = []
        for skill in build:
            words = ["tier"] if not again.is_tier_met(book, build, skill) else []
            words += [want[0] for want in book.wants_of(skill) if not again.is_want_met(build, want)]
            pairs += [(skill, word) for word in dict.fromkeys(words)]
        pairs += [("bar", bar) for bar in book.bars() if set(bar) <= set(build)]
        many = len(build) - again.points_let(book, build)
        return pairs + [("points", many)] * (many > 0)

    def test_a_new_list_each_time(self):
        book = full_book()
        told = lacks(book, ("c",))
        kept = list(told)
        told.clear()
        self.assertEqual(lacks(book, ("c",)), kept)


class IsMetTest(unittest.TestCase):
    def test_in_the_build_or_not(self):
        book = Book([("a", 1), ("b", 1), ("c", 2)], 0, needs=[(2, 1)], wants=[("any", "c", ("b",))], bars=[("b", "c")])
        self.assertEqual([is_met(book, build, "c") for build in [(), ("a",), ("b",), ("c",), ("a", "c"), ("b", "c")]],
                         [False, False, True, False, False, True])
        self.assertIs(is_met(book, ("c",), "a"), True)

    def test_against_the_document(self):
        for book in random_books(100):
            for build in all_builds(book.names()):
                for skill in book:
                    self.assertIs(is_met(book, build, skill), again.is_met(book, build, skill))

    def test_what_is_no_skill(self):
        for value in odd_values() + ["", "x", "A", "ab", 0, 1, (), ("a",), ["a"], ("take", "a")]:
            for build in ((), ("a", "b")):
                with self.assertRaises(NoSkill) as caught:
                    is_met(full_book(), build, value)
                self.assertIs(caught.exception.skill, value)

    def test_no_build_ahead_of_no_skill(self):
        for value in no_builds("abcd"):
            for skill in ("a", "x", None):
                with self.assertRaises(NoBuild) as caught:
                    is_met(full_book(), value, skill)
                self.assertIs(caught.exception.build, value)


class SizeLetTest(unittest.TestCase):
    def test_points_and_gives(self):
        book = Book(flat(3), 2, gives=[("b", 3), ("a", 1)])
        self.assertEqual([size_let(book, build) for build in all_builds("abc")], [2, 3, 5, 2, 6, 3, 5, 6])

    def test_a_skill_that_gives_for_itself(self):
        book = Book(flat(2), 0, gives=[("a", 1)])
        self.assertEqual((size_let(book, ("a",)), holds(book, ("a",)), holds(book, ("b",))), (1, True, False))

    def test_of_builds_that_do_not_hold(self):
        self.assertEqual(size_let(Book(flat(3), 0), ("a", "b", "c")), 0)

    def test_against_the_document(self):
        for book in random_books(100):
            for build in all_builds(book.names()):
                self.assertEqual(size_let(book, build), again.points_let(book, build))


class StepsTest(unittest.TestCase):
    def test_takes_gives_reset(self):
        book = Book([("c", 1), ("a", 1), ("b", 2), ("d", 2)], 3, needs=[(2, 1)], reset=0)
        self.assertEqual(list(steps(book, ("a",))), [("take", "c"), ("take", "b"), ("take", "d"), ("give", "a"), ("reset",)])
        self.assertEqual(list(steps(book, ("c", "a", "b"))), [("give", "c"), ("give", "a"), ("give", "b"), ("reset",)])
        self.assertEqual(list(steps(book, ("c", "b"))), [("take", "a"), ("take", "d"), ("give", "b"), ("reset",)])

    def test_no_reset_at_the_empty_build_or_without_a_price(self):
        self.assertEqual(list(steps(Book(flat(1), 1, reset=5), ())), [("take", "a")])
        self.assertEqual(list(steps(Book(flat(1), 1), ("a",))), [("give", "a")])
        self.assertEqual(list(steps(Book(flat(1), 1, reset=0), ("a",))), [("give", "a"), ("reset",)])
        self.assertEqual(list(steps(Book(flat(1), 0, reset=0), ())), [])

    def test_a_give_behind_which_the_points_are_too_few(self):
        book = Book(flat(3), 1, gives=[("a", 2)])
        self.assertEqual(list(steps(book, ("a", "b", "c"))), [("give", "b"), ("give", "c")])
        self.assertEqual(list(steps(book, ("a", "b"))), [("take", "c"), ("give", "a"), ("give", "b")])

    def test_against_the_document(self):
        for book in random_books(150):
            for build, rows in again.all_moves(book).items():
                told = [(step, price_of_step(book, build, step), behind(book, build, step))
                        for step in steps(book, build)]
                self.assertEqual(told, rows)

    def test_a_book_of_twelve(self):
        book = twelve_book()
        for build in again.good_builds(book)[::40]:
            told = [(step, price_of_step(book, build, step), behind(book, build, step)) for step in steps(book, build)]
            self.assertEqual(told, again.moves(book, build))

    def test_it_is_a_generator(self):
        told = steps(full_book(), ())
        self.assertIs(iter(told), told)
        self.assertEqual(next(told), ("take", "a"))
        self.assertEqual(list(told), [("take", "b")])
        self.assertEqual(list(told), [])

    def test_what_is_told_holds_no_part_of_the_book(self):
        book = full_book()
        kept = full_book()
        for step in steps(book, ("a",)):
            self.assertIs(type(step), tuple)
            self.assertIs(type(behind(book, ("a",), step)), tuple)
        self.assertEqual(book, kept)


class NoStepTest(unittest.TestCase):
    def test_values_that_are_none(self):
        book = full_book()
        for build in ((), ("a",)):
            for value in no_steps():
                self.refused(book, build, value)

    def test_steps_that_are_not_possible(self):
        book = full_book()
        for build in again.good_builds(book):
            told = [step for step, _, _ in again.moves(book, build)]
            for step in [(word, skill) for word in ("take", "give") for skill in "abcd"]:
                if step not in told:
                    self.refused(book, build, step)
                self.refused(book, build, list(step))

    def test_a_reset_that_is_not_possible(self):
        self.refused(full_book(), (), ("reset",))
        self.refused(full_book().changed(reset=None), ("a",), ("reset",))
        self.assertEqual(behind(full_book(), ("a",), ("reset",)), ())
        self.assertEqual(price_of_step(full_book(), ("a",), ("reset",)), 7)

    def refused(self, book, build, step):
        for call in (behind, price_of_step):
            with self.assertRaises(NoStep) as caught:
                call(book, build, step)
            self.assertIs(caught.exception.step, step)


class NoBuildTest(unittest.TestCase):
    def test_of_functions_that_take_any_build(self):
        for value in no_builds("abcd"):
            for call in (lambda: holds(full_book(), value), lambda: lacks(full_book(), value),
                         lambda: size_let(full_book(), value), lambda: is_met(full_book(), value, "a")):
                self.refused(call, value)

    def test_of_functions_that_take_builds_that_hold(self):
        book = full_book()
        bad = [build for build in all_builds("abcd") if not again.holds(book, build)]
        self.assertGreater(len(bad), 8)
        for value in no_builds("abcd") + bad:
            for step in (("take", "a"), None, ("reset",), ("take", "x")):
                self.refused(lambda: behind(book, value, step), value)
                self.refused(lambda: price_of_step(book, value, step), value)
            self.refused(lambda: next(steps(book, value)), value)
            self.refused(lambda: list(steps(book, value)), value)

    def test_a_build_of_a_greater_book(self):
        self.refused(lambda: holds(Book(flat(2), 2), ("a", "c")), ("a", "c"))

    def refused(self, call, value):
        with self.assertRaises(NoBuild) as caught:
            call()
        self.assertTrue(caught.exception.build is value or caught.exception.build == value)


class NamesTest(unittest.TestCase):
    def test_arguments_by_name(self):
        book = full_book()
        self.assertIs(holds(book=book, build=("a",)), True)
        self.assertEqual(lacks(book=book, build=("c",)), [("c", "tier"), ("c", "all")])
        self.assertIs(is_met(book=book, build=("a",), skill="d"), False)
        self.assertEqual(size_let(book=book, build=("a",)), 6)
        self.assertEqual(list(steps(book=book, build=())), [("take", "a"), ("take", "b")])
        self.assertEqual(behind(book=book, build=(), step=("take", "b")), ("b",))
        self.assertEqual(price_of_step(book=book, build=("a",), step=("give", "a")), 99)


if __name__ == "__main__":
    unittest.main()
