"""[1]: which parameters of a book are right, and NoBook for the first one that is not."""

import itertools
import unittest

from refundtrees.books import Book
from refundtrees.errors import NoBook
from tests_kit import FULL, NAMES, flat, full_book, values_but_numbers, values_but_rows, values_but_words

PARTS = ["skills", "points", "needs", "wants", "bars", "gives", "prices", "reset"]

WRONG = {
    "skills": [("a", 2), ("b", 1), ("c", 2), ("d", 3)],
    "points": 13,
    "needs": [(4, 3), (2, 1)],
    "wants": [("all", "a", ("a",))],
    "bars": [("a", "b"), ("b", "a")],
    "gives": [("a", 0)],
    "prices": [("a", 100)],
    "reset": 100,
}


class LimitsTest(unittest.TestCase):
    def refused(self, part, value, **more):
        """That the value, all else as in a plain book, is refused under the name of its parameter."""
        told = {"skills": flat(12), "points": 3, **more, part: value}
        with self.subTest(part=part, more=more), self.assertRaises(NoBook) as caught:
            Book(**told)
        self.assertEqual(caught.exception.part, part)

    def accepted(self, part, value, **more):
        told = {"skills": flat(12), "points": 3, **more, part: value}
        book = Book(**told)
        answer = getattr(book, part)
        if part not in ("points", "reset"):
            answer, value = answer(), list(value)
        with self.subTest(part=part, value=value):
            self.assertEqual(answer, value)

    def tried_both(self, part, right, wrong):
        """Rows in a list and in a tuple; a wrong one also behind and ahead of right ones."""
        for row in right:
            self.accepted(part, [row])
            self.accepted(part, (row,))
        for row in wrong:
            self.refused(part, [row])
            self.refused(part, (row,))
            self.refused(part, [row, right[0]])
            self.refused(part, [right[0], row])

    # Skills.

    def test_skills_are_a_list_or_tuple_of_one_to_twelve(self):
        for many in (1, 2, 11, 12):
            self.accepted("skills", flat(many))
            self.accepted("skills", tuple(flat(many)))
        self.refused("skills", [])
        self.refused("skills", ())
        self.refused("skills", flat(12) + [("m", 1)])
        self.refused("skills", tuple(flat(12)) + (("m", 1),))
        for value in values_but_rows():
            self.refused("skills", value)

    def test_skills_are_words(self):
        for name in ("a", "z", "abcdefgh", "mnopqrst"):
            self.accepted("skills", [(name, 1)])
        for name in ("", "abcdefghi", "A", "aB", "a1", "1", "a b", "a ", " a", "a\n", "_", "a-b", "a`", "a{"):
            self.refused("skills", [(name, 1)])
        for name in values_but_words():
            self.refused("skills", [(name, 1)])

    def test_skills_are_unlike(self):
        self.refused("skills", [("a", 1), ("a", 1)])
        self.refused("skills", [("a", 1), ("b", 1), ("a", 2)])
        self.accepted("skills", [("b", 1), ("a", 1)])
        self.accepted("skills", [("a", 1), ("aa", 1)])

    def test_tiers_go_from_one_to_four(self):
        for tier in (1, 2, 3, 4):
            self.accepted("skills", [("a", tier)])
        for tier in [0, 5, -1, 10**20, -(10**20)] + values_but_numbers():
            self.refused("skills", [("a", tier)])

    def test_tiers_do_not_fall(self):
        self.accepted("skills", [("a", 1), ("b", 1), ("c", 3), ("d", 3), ("e", 4)])
        self.accepted("skills", [("a", 4), ("b", 4)])
        self.refused("skills", [("a", 2), ("b", 1)])
        self.refused("skills", [("a", 1), ("b", 3), ("c", 2), ("d", 3)])
        self.refused("skills", [("a", 1), ("b", 4), ("c", 3)])

    def test_skills_are_pairs_that_are_tuples(self):
        for row in (["a", 1], ("a",), ("a", 1, 1), (), "ab", "a", ("a", "b"), (1, "a"), {"a": 1}, None, 1):
            self.refused("skills", [row])
            self.refused("skills", [("x", 1), row])

    # Points and the reset.

    def test_points_go_from_zero_to_twelve(self):
        for points in range(13):
            self.accepted("points", points)
        for points in [-1, 13, 10**20] + values_but_numbers():
            self.refused("points", points)

    def test_reset_goes_from_zero_to_99_or_is_none(self):
        for reset in (0, 1, 98, 99, None):
            self.accepted("reset", reset)
        for reset in [-1, 100, 10**20] + values_but_numbers():
            if reset is not None:
                self.refused("reset", reset)

    # Needs.

    def test_needs_are_pairs_of_a_tier_and_a_number(self):
        self.tried_both(
            "needs",
            right=[(tier, need) for tier in (2, 3, 4) for need in (0, 1, 11, 12)],
            wrong=[(1, 1), (1, 0), (0, 1), (5, 1), (2, -1), (2, 13), (2,), (2, 1, 1), (), [2, 1], "ab", 2, None],
        )
        for value in values_but_numbers():
            self.refused("needs", [(2, value)])
            self.refused("needs", [(value, 2)])
        for value in values_but_rows():
            self.refused("needs", value)
        self.accepted("needs", [])
        self.accepted("needs", ())

    def test_needs_are_of_ascending_tiers(self):
        for some in ([2, 3], [2, 4], [3, 4], [2, 3, 4]):
            self.accepted("needs", [(tier, 1) for tier in some])
        for some in ([3, 2], [4, 2], [4, 3], [2, 2], [2, 3, 3], [2, 4, 3], [3, 2, 4], [2, 3, 4, 4], [1, 2], [2, 5]):
            self.refused("needs", [(tier, 1) for tier in some])

    def test_needs_may_be_told_of_tiers_without_skills(self):
        self.accepted("needs", [(4, 12)], skills=[("a", 1)])

    # Wants.

    def test_wants_are_rows_of_three_kinds(self):
        self.tried_both(
            "wants",
            right=[
                ("all", "a", ("b",)), ("any", "a", ("b", "c")), ("count", "a", ("b",), 1),
                ("all", "c", ("b", "a")), ("count", "l", ("k", "a"), 1), ("count", "a", ("l", "k"), 2),
                ("all", "b", tuple(name for name in NAMES if name != "b")),
                ("count", "b", tuple(name for name in NAMES if name != "b"), 11),
            ],
            wrong=[
                ("all", "a"), ("all", "a", ("b",), 1), ("any", "a", ("b",), 1), ("count", "a", ("b",)),
                ("count", "a", ("b",), 1, 1), (), ("all",), ("count",), "all", "abc", None, 3, {},
                ["all", "a", ("b",)], ["count", "a", ("b",), 1], ("a", ("b",), "all"),
                ("All", "a", ("b",)), ("", "a", ("b",)), ("none", "a", ("b",)), ("al", "a", ("b",)),
                ("all", "x", ("b",)), ("all", "A", ("b",)), ("all", "", ("b",)), ("all", ("a",), ("b",)),
                ("all", "a", ()), ("any", "a", ()), ("count", "a", (), 0), ("count", "a", (), 1),
                ("all", "a", ["b"]), ("any", "a", ["b"]), ("count", "a", ["b"], 1), ("all", "a", "b"),
                ("all", "a", {"b": 1}), ("all", "a", ("a",)), ("all", "a", ("b", "a")), ("any", "a", ("b", "b")),
                ("all", "a", ("x",)), ("all", "a", ("b", "x")), ("all", "a", ("b", ("c",))),
                ("all", "a", tuple(NAMES)), ("all", "a", tuple(NAMES[1:]) + ("m",)),
                ("all", "a", tuple(NAMES[1:]) + ("b",)),
            ],
        )
        for value in values_but_rows():
            self.refused("wants", value)
        for value in values_but_words():
            self.refused("wants", [(value, "a", ("b",))])
            self.refused("wants", [(value, "a", ("b",), 1)])
            self.refused("wants", [("all", value, ("b",))])
            self.refused("wants", [("all", "a", (value,))])
            self.refused("wants", [("all", "a", ("b", value))])
            self.refused("wants", [("all", "a", value)])
            self.refused("wants", [value])

    def test_many_goes_from_one_to_how_many_names(self):
        for names in (("b",), ("b", "c"), ("b", "c", "d")):
            for many in range(1, len(names) + 1):
                self.accepted("wants", [("count", "a", names, many)])
            for many in [-1, 0, len(names) + 1, 12] + values_but_numbers():
                self.refused("wants", [("count", "a", names, many)])

    def test_there_are_up_to_twelve_wants_and_like_ones_again(self):
        row = ("all", "a", ("b",))
        for many in (0, 1, 2, 11, 12):
            self.accepted("wants", [row] * many)
        self.refused("wants", [row] * 13)
        self.refused("wants", (row,) * 13)

    def test_a_lone_skill_can_want_nothing(self):
        self.refused("wants", [("all", "a", ("b",))], skills=[("a", 1)])
        self.refused("wants", [("all", "a", ("a",))], skills=[("a", 1)])

    # Bars.

    def test_bars_are_pairs_of_unlike_skills(self):
        self.tried_both(
            "bars",
            right=[("c", "d"), ("d", "c"), ("l", "a")],
            wrong=[("a", "a"), ("a", "x"), ("x", "a"), ("a",), ("a", "b", "e"), (), ["a", "b"], "ab", None, 1, ("a", 1)],
        )
        for value in values_but_rows():
            self.refused("bars", value)
        for value in values_but_words():
            self.refused("bars", [("a", value)])
            self.refused("bars", [(value, "a")])
            self.refused("bars", [value])

    def test_there_are_up_to_six_bars(self):
        pairs = list(itertools.combinations(NAMES, 2))
        for many in (0, 1, 5, 6):
            self.accepted("bars", pairs[:many])
        self.refused("bars", pairs[:7])
        self.refused("bars", tuple(pairs[:7]))

    def test_no_bar_stands_twice_either_way_about(self):
        self.refused("bars", [("a", "b"), ("a", "b")])
        self.refused("bars", [("a", "b"), ("b", "a")])
        self.refused("bars", [("b", "a"), ("c", "a"), ("a", "b")])
        self.accepted("bars", [("a", "b"), ("c", "b"), ("a", "c")])

    # Gives and prices.

    def test_gives_go_from_one_to_three(self):
        self.tried_both(
            "gives",
            right=[("c", 1), ("d", 2), ("l", 3)],
            wrong=[("a", 0), ("a", 4), ("a", -1), ("x", 1), ("a",), ("a", 1, 1), (), ["a", 1], (1, "a"), "ab", None, 1],
        )
        self.tried_values("gives")

    def test_prices_go_from_zero_to_99(self):
        self.tried_both(
            "prices",
            right=[("c", 0), ("d", 1), ("e", 98), ("l", 99)],
            wrong=[("a", -1), ("a", 100), ("x", 1), ("a",), ("a", 1, 1), (), ["a", 1], (1, "a"), "ab", None, 1],
        )
        self.tried_values("prices")

    def tried_values(self, part):
        for value in values_but_rows():
            self.refused(part, value)
        for value in values_but_numbers():
            self.refused(part, [("a", value)])
        for value in values_but_words():
            self.refused(part, [(value, 1)])
            self.refused(part, [value])

    def test_no_skill_stands_twice_in_gives_or_prices(self):
        for part in ("gives", "prices"):
            self.refused(part, [("a", 1), ("a", 1)])
            self.refused(part, [("a", 1), ("b", 1), ("a", 2)])
            self.accepted(part, [("b", 1), ("a", 1)])
            self.accepted(part, [(name, 1) for name in NAMES])
            self.accepted(part, [(name, 1) for name in reversed(NAMES)])
            self.accepted(part, [])
            self.refused(part, [(name, 1) for name in NAMES] + [("a", 1)])
            self.refused(part, [("b", 1)], skills=[("a", 1)])

    # The order of the parameters.

    def test_the_first_wrong_part_is_told(self):
        for size in range(1, len(PARTS) + 1):
            for some in itertools.combinations(PARTS, size):
                told = {**FULL, **{part: WRONG[part] for part in reversed(some)}}
                with self.subTest(some), self.assertRaises(NoBook) as caught:
                    Book(**told)
                self.assertEqual(caught.exception.part, some[0])

    def test_parts_that_are_wrong_beside_the_skills(self):
        told = {
            "wants": [("all", "a", ("b",))], "bars": [("a", "b")], "gives": [("b", 1)], "prices": [("b", 1)],
        }
        for size in range(1, len(told) + 1):
            for some in itertools.combinations(told, size):
                with self.subTest(some), self.assertRaises(NoBook) as caught:
                    Book([("a", 1)], 3, **{part: told[part] for part in reversed(some)})
                self.assertEqual(caught.exception.part, some[0])
                Book([("a", 1), ("b", 1)], 3, **told)

    def test_wrong_skills_are_told_ahead_of_all(self):
        for value in values_but_rows():
            with self.assertRaises(NoBook) as caught:
                Book(value, value, needs=value, wants=value, bars=value, gives=value, prices=value, reset=value)
            self.assertEqual(caught.exception.part, "skills")

    def test_a_part_wrong_by_itself_comes_ahead_of_one_wrong_beside_the_skills(self):
        with self.assertRaises(NoBook) as caught:
            Book([("a", 1)], 3, wants=[("all", "a", ("b",))], needs=[(1, 1)])
        self.assertEqual(caught.exception.part, "needs")
        with self.assertRaises(NoBook) as caught:
            Book([("a", 1)], 3, wants=[("all", "a", ("b",))], reset=True)
        self.assertEqual(caught.exception.part, "wants")

    def test_the_rest_is_told_by_name_alone(self):
        with self.assertRaises(TypeError):
            Book(flat(2), 3, ())
        with self.assertRaises(TypeError):
            full_book().changed([("a", 1)])


if __name__ == "__main__":
    unittest.main()
