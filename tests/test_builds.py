"""[2] and the interface's heading "Stage 2": what a build is, Builds as values, and when one holds."""

import itertools
import unittest
from unittest import mock

from refundtrees.books import Book
from refundtrees.builds import Build, build_of, is_build
from refundtrees.errors import NoBuild
from tests_again import holds
from tests_kit import all_builds, flat, full_book, odd_values, random_book

NO_BUILDS = [
    "", "a", "ab", 0, 1, {"a": 1}, ["a", "a"], ("a", "b", "a"), ["x"], ("a", "x"), ["A"], ["ab"], [""],
    [None], [True], [0], [1], [["a"]], [("a",)], ("a", ["b"]), [("a", "b")], list("abcde"), ("a",) * 100, [b"a"],
]


def not_skills():
    """Values that are no list and no tuple of unlike skills of the full book, nor a Build of it."""
    odd = odd_values() + NO_BUILDS + [mock.ANY, full_book()]
    return odd + [[value] for value in odd_values()] + [("a", value) for value in odd_values()]


class IsBuildTest(unittest.TestCase):
    def test_every_tuple_of_skills(self):
        book = full_book()
        right = all_builds("abcd")
        for size in range(5):
            for value in itertools.product("abcdx", repeat=size):
                self.assertIs(is_build(book, value), value in right)
                self.assertIs(is_build(book, list(value)), False)

    def test_the_order_is_that_of_the_book(self):
        book = Book([("c", 1), ("a", 1), ("b", 2)], 0)
        self.assertIs(is_build(book, ("c", "a", "b")), True)
        self.assertIs(is_build(book, ("c", "b")), True)
        self.assertIs(is_build(book, ("a", "b", "c")), False)
        self.assertIs(is_build(book, ("a", "c")), False)

    def test_it_need_not_hold(self):
        self.assertIs(is_build(full_book(), ("a", "b", "c", "d")), True)

    def test_by_name(self):
        self.assertIs(is_build(book=full_book(), value=("a",)), True)
        self.assertIs(is_build(value=("b", "a"), book=full_book()), False)

    def test_any_value(self):
        for value in not_skills() + [[], ["a"], Build(full_book(), ("a",)), Build(full_book())]:
            self.assertIs(is_build(full_book(), value), False)


class BuildOfTest(unittest.TestCase):
    def test_any_order_in_lists_and_tuples(self):
        book = Book([("c", 1), ("a", 1), ("b", 2)], 0)
        for size in range(4):
            for skills in itertools.permutations("abc", size):
                told = tuple(name for name in "cab" if name in skills)
                self.assertEqual(build_of(book, skills), told)
                self.assertEqual(build_of(book, list(skills)), told)
                self.assertIs(type(build_of(book, list(skills))), tuple)

    def test_by_name(self):
        self.assertEqual(build_of(book=full_book(), skills=["b", "a"]), ("a", "b"))
        self.assertEqual(build_of(skills=("d",), book=full_book()), ("d",))

    def test_what_was_handed_in_stays(self):
        skills = ["c", "a"]
        self.assertEqual(build_of(full_book(), skills), ("a", "c"))
        self.assertEqual(skills, ["c", "a"])

    def test_what_is_no_build(self):
        for value in not_skills() + [Build(full_book(), ("a",)), Build(full_book())]:
            for call in (build_of, Build):
                for told in ((full_book(), value), ()):
                    more = {} if told else {"book": full_book(), "skills": value}
                    with self.assertRaises(NoBuild) as caught:
                        call(*told, **more)
                    self.assertIs(caught.exception.build, value)

    def test_no_build_of_a_smaller_book(self):
        with self.assertRaises(NoBuild) as caught:
            build_of(Book(flat(2), 2), ("a", "b", "c"))
        self.assertEqual(caught.exception.build, ("a", "b", "c"))


class BuildTest(unittest.TestCase):
    def test_tells_its_skills(self):
        book = full_book()
        for skills in all_builds("abcd"):
            for handed in (skills, list(skills), skills[::-1], list(skills)[::-1]):
                one = Build(book, handed)
                self.assertEqual(one.skills(), skills)
                self.assertIs(type(one.skills()), tuple)
                self.assertEqual(one.listed(), list(skills))
                self.assertIs(type(one.listed()), list)
                self.assertEqual([name for name in one], list(skills))
                self.assertEqual(len(one), len(skills))
                self.assertEqual([name in one for name in "abcd"], [name in skills for name in "abcd"])

    def test_the_empty_build(self):
        one = Build(full_book())
        self.assertEqual((one.skills(), one.listed(), list(one), len(one)), ((), [], [], 0))
        self.assertEqual(one, Build(full_book(), []))
        self.assertIs(one.is_good(), True)
        self.assertIs("a" in one, False)

    def test_by_name(self):
        self.assertEqual(Build(book=full_book(), skills=["b", "a"]).skills(), ("a", "b"))
        self.assertEqual(Build(full_book(), skills=("b",)), Build(skills=["b"], book=full_book()))
        self.assertEqual(Build(book=full_book()).skills(), ())

    def test_skill_in_one(self):
        one = Build(full_book(), ("a", "b"))
        for value in ["", "c", "d", "x", "ab", 0, 1, [], ["a"], (), ("a",), ("a", "b"), mock.ANY] + odd_values():
            self.assertIs(value in one, False)
            self.assertIs(value in Build(full_book()), False)
        self.assertIs("a" in one, True)

    def test_lists_are_changed_behind(self):
        skills = ["b", "a"]
        one = Build(full_book(), skills)
        skills.append("c")
        told = one.listed()
        self.assertIsNot(told, one.listed())
        told.append("d")
        told.reverse()
        self.assertEqual((one.skills(), one.listed(), list(one), len(one)), (("a", "b"), ["a", "b"], ["a", "b"], 2))
        self.assertEqual(one, Build(full_book(), ("a", "b")))
        beside = ["c"]
        both = one | beside
        beside.append("d")
        self.assertEqual((both.skills(), beside), (("a", "b", "c"), ["c", "d"]))

    def test_a_call_that_raises_changes_nothing(self):
        one = Build(full_book(), ("a",))
        for call in (lambda: one | "a", lambda: one & 1, lambda: one - None, lambda: one.within({}),
                     lambda: ["x"] | one, lambda: Build.__init__(one, Book(flat(1), 1), ["x"])):
            with self.assertRaises(NoBuild):
                call()
        self.assertEqual(one, Build(full_book(), ("a",)))


class EqualTest(unittest.TestCase):
    def test_equal_builds(self):
        one, other = Build(full_book(), ("a", "b")), Build(full_book(), ["b", "a"])
        self.assertIs(one == other, True)
        self.assertIs(one != other, False)

    def test_other_skills(self):
        builds = [Build(full_book(), skills) for skills in all_builds("abcd")]
        for at, one in enumerate(builds):
            self.assertEqual([one == other for other in builds], [at == place for place in range(len(builds))])

    def test_other_books(self):
        for more in ({"points": 4}, {"reset": None}, {"prices": ()}, {"wants": ()}, {"gives": ()}):
            one, other = Build(full_book(), ("a",)), Build(full_book().changed(**more), ("a",))
            self.assertIs(one == other, False)
            self.assertIs(one != other, True)

    def test_builds_equal_nothing_else(self):
        one = Build(full_book(), ("a", "b"))
        for other in odd_values() + [("a", "b"), ["a", "b"], "ab", 0, 1, mock.ANY, full_book()]:
            self.assertIs(one == other, False)
            self.assertIs(one != other, True)
        self.assertIs(Build(full_book()) == (), False)
        self.assertIs(Build(full_book()) == [], False)


class JoinedTest(unittest.TestCase):
    def test_all_pairs_in_every_form(self):
        book = Book([("c", 1), ("a", 1), ("b", 2), ("d", 2)], 1)
        for one, other in itertools.product(all_builds("cabd"), repeat=2):
            both = [
                (name in one or name in other, name in one and name in other, name in one and name not in other)
                for name in "cabd"
            ]
            told = [tuple(name for name, rows in zip("cabd", both) if rows[at]) for at in range(3)]
            self.each_form(book, one, other, told)

    def each_form(self, book, one, other, told):
        for forms in (self.forms(book, one, other), self.swapped_forms(book, one, other)):
            for first, second in forms:
                joined = [first | second, first & second, first - second]
                self.assertEqual([build.skills() for build in joined], told)
                self.assertEqual(joined, [Build(book, skills) for skills in told])
                if isinstance(first, Build):
                    self.assertIs(first.within(second), told[2] == ())
                    self.assertIs(first.within(other=second), told[2] == ())

    def forms(self, book, one, other):
        """The first one as a Build, beside it the other one in all forms and orders."""
        first = Build(book, one)
        twin = Build(book.changed(), other)
        return [(first, second) for second in (twin, other, list(other), other[::-1], list(other)[::-1])]

    def swapped_forms(self, book, one, other):
        second = Build(book, other)
        return [(first, second) for first in (one, list(one), one[::-1], list(one)[::-1])]

    def test_the_operands_stay(self):
        one, other, beside = Build(full_book(), "a b".split()), Build(full_book(), ("b", "c")), ["c", "b"]
        for second in (other, beside):
            one | second, one & second, one - second, second | one, second & one, second - one, one.within(second)
        self.assertEqual((one.skills(), other.skills(), beside), (("a", "b"), ("b", "c"), ["c", "b"]))

    def test_in_place_makes_a_new_one(self):
        one = kept = Build(full_book(), ("a", "b"))
        one |= ["d"]
        self.assertEqual((one.skills(), kept.skills()), (("a", "b", "d"), ("a", "b")))
        one &= ("d", "a")
        one -= Build(full_book(), ("a",))
        self.assertEqual((one.skills(), kept.skills()), (("d",), ("a", "b")))

    def test_joined_with_itself(self):
        one = Build(full_book(), ("a", "b"))
        self.assertEqual((one | one, one & one, one - one), (one, one, Build(full_book())))
        self.assertIs(one.within(one), True)

    def test_a_build_of_an_equal_book(self):
        one, other = Build(full_book(), ("a",)), Build(full_book(), ("b",))
        self.assertEqual((one | other).skills(), ("a", "b"))
        self.assertEqual((one & other).skills(), ())
        self.assertEqual((one - other).skills(), ("a",))
        self.assertIs(one.within(other), False)

    def test_a_build_of_another_book(self):
        one = Build(full_book(), ("a",))
        for more in ({"points": 4}, {"reset": None}, {"prices": ()}, {"skills": flat(4), "needs": ()}):
            for skills in ((), ("a",), ("a", "b")):
                other = Build(full_book().changed(**more), skills)
                self.refused(one, other)
                self.refused_by_operators(other, one, lambda first, second: (second, first))

    def test_any_value_beside_it(self):
        for value in not_skills():
            self.refused(Build(full_book(), ("a",)), value)
            self.refused(Build(full_book()), value)
            self.refused_by_operators(Build(full_book(), ("a",)), value, lambda first, second: (second, first))

    def refused(self, one, value):
        self.refused_by_operators(one, value, lambda first, second: (first, second))
        for call in (lambda: one.within(value), lambda: one.within(other=value)):
            with self.assertRaises(NoBuild) as caught:
                call()
            self.assertIs(caught.exception.build, value)

    def refused_by_operators(self, one, value, placed):
        first, second = placed(one, value)
        beside = second if isinstance(first, Build) else first
        for call in (lambda: first | second, lambda: first & second, lambda: first - second):
            with self.assertRaises(NoBuild) as caught:
                call()
            self.assertIs(caught.exception.build, beside)


class IsGoodTest(unittest.TestCase):
    def good(self, book):
        """All builds that hold, each as one text."""
        told = []
        for build in all_builds(book.names()):
            answer = Build(book, build).is_good()
            self.assertIs(type(answer), bool)
            if answer:
                told.append("".join(build))
        return told

    def test_the_empty_build_always_holds(self):
        wants = [("all", "a", ("b",)), ("all", "b", ("a",))]
        self.assertEqual(self.good(Book(flat(2, 4), 0, needs=[(4, 12)], wants=wants, bars=[("a", "b")])), [""])
        for seed in range(200):
            self.assertIs(Build(random_book(seed)).is_good(), True)

    def test_all(self):
        book = Book(flat(3), 3, wants=[("all", "c", ("a", "b"))])
        self.assertEqual(self.good(book), ["", "a", "b", "ab", "abc"])

    def test_any(self):
        book = Book(flat(3), 3, wants=[("any", "c", ("a", "b"))])
        self.assertEqual(self.good(book), ["", "a", "b", "ab", "ac", "bc", "abc"])

    def test_count(self):
        names = ("b", "c", "d")
        told = {
            1: ["ab", "ac", "ad", "abc", "abd", "acd", "abcd"],
            2: ["abc", "abd", "acd", "abcd"],
            3: ["abcd"],
        }
        for many, good in told.items():
            book = Book(flat(4), 4, wants=[("count", "a", names, many)])
            self.assertEqual([build for build in self.good(book) if "a" in build], good)

    def test_wants_may_name_later_skills_and_one_another(self):
        book = Book(flat(2), 2, wants=[("all", "a", ("b",)), ("any", "b", ("a",))])
        self.assertEqual(self.good(book), ["", "ab"])

    def test_each_want_counts(self):
        book = Book(flat(4), 4, wants=[("any", "d", ("a", "b")), ("all", "d", ("c",)), ("any", "d", ("a", "b"))])
        self.assertEqual([build for build in self.good(book) if "d" in build], ["acd", "bcd", "abcd"])

    def test_a_want_of_what_is_not_in_it_does_not_count(self):
        book = Book(flat(3), 3, wants=[("all", "c", ("a", "b"))])
        self.assertIs(Build(book, ("a",)).is_good(), True)

    def test_needs_count_skills_of_lower_tiers(self):
        skills = [("a", 1), ("b", 1), ("c", 2), ("d", 2), ("e", 3)]
        book = Book(skills, 5, needs=[(2, 2), (3, 3)])
        self.assertEqual([build for build in self.good(book) if "c" in build or "d" in build or "e" in build],
                         ["abc", "abd", "abcd", "abce", "abde", "abcde"])

    def test_skills_of_the_same_tier_do_not_count_for_a_need(self):
        book = Book([("a", 1), ("b", 2), ("c", 2), ("d", 3)], 4, needs=[(2, 1), (3, 2)])
        self.assertEqual(self.good(book), ["", "a", "ab", "ac", "abc", "abd", "acd", "abcd"])

    def test_a_need_that_is_not_told_is_none(self):
        book = Book([("a", 2), ("b", 3), ("c", 4)], 3, needs=[(3, 1)])
        self.assertEqual(self.good(book), ["", "a", "c", "ab", "ac", "abc"])

    def test_a_need_that_no_build_can_meet(self):
        book = Book([("a", 1), ("b", 2)], 2, needs=[(2, 12)])
        self.assertEqual(self.good(book), ["", "a"])

    def test_bars(self):
        book = Book(flat(3), 3, bars=[("b", "a"), ("b", "c")])
        self.assertEqual(self.good(book), ["", "a", "b", "c", "ac"])

    def test_points(self):
        for points in range(5):
            book = Book(flat(4), points)
            self.assertEqual(self.good(book), ["".join(build) for build in all_builds("abcd") if len(build) <= points])

    def test_a_skill_that_gives_points_for_itself(self):
        self.assertEqual(self.good(Book(flat(2), 0, gives=[("a", 1)])), ["", "a"])
        self.assertEqual(self.good(Book(flat(3), 0, gives=[("a", 2)])), ["", "a", "ab", "ac"])
        self.assertEqual(self.good(Book(flat(4), 0, gives=[("b", 3)])),
                         ["", "b", "ab", "bc", "bd", "abc", "abd", "bcd"])
        self.assertEqual(self.good(Book(flat(4), 1, gives=[("d", 1), ("a", 1)])),
                         ["", "a", "b", "c", "d", "ab", "ac", "ad", "bd", "cd", "abd", "acd"])

    def test_a_build_of_another_book_is_good_by_its_own(self):
        book = Book(flat(2), 1)
        self.assertIs(Build(book, ("a", "b")).is_good(), False)
        self.assertIs(Build(book.changed(points=2), ("a", "b")).is_good(), True)

    def test_many_books_against_the_document(self):
        seen = [0, 0]
        for seed in range(400):
            book = random_book(seed)
            for build in all_builds(book.names()):
                answer = Build(book, build).is_good()
                self.assertIs(answer, holds(book, build), (seed, build))
                seen[answer] += 1
        self.assertGreater(min(seen), 1000)


if __name__ == "__main__":
    unittest.main()
