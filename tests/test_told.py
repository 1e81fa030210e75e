"""[13], and the interface's heading "Stage 14": what wants can be, by what was let."""

import itertools
import random
import unittest

from refundtrees.errors import NoSeen, NoSkill
from refundtrees.told import explains, greatest_wants, is_seen, may, must, next_ask
import tests_again as again
from tests_kit import (
    Everything, NAMES, Nothing, all_builds, no_builds, odd_values, values_but_rows, values_but_words,
)

ABCX = ["a", "b", "c", "x"]
# The document's own example.
SEEN = [(("a", "b"), "x", True), (("a", "c"), "x", True), (("b", "c"), "x", False)]
# For x it is contradicted: all that was needed was there, and it was refused.
AGAINST = [(("a",), "x", True), (("a", "b"), "x", False)]


def random_seen(names, seed, wants=None):
    """What was let; by some wants if they are told, so that it can be explained, and at random otherwise."""
    dice = random.Random(seed)
    rows = []
    for _ in range(dice.randint(0, 7)):
        skill = dice.choice(names)
        build = tuple(name for name in names if name != skill and dice.random() < 0.6)
        let = dice.random() < 0.5 if wants is None else set(wants[skill]) <= set(build)
        rows.append((build, skill, let))
    return tuple(rows) if seed % 2 else rows


def random_wants(names, seed):
    dice = random.Random(seed)
    return {skill: tuple(name for name in names if name != skill and dice.random() < 0.4) for skill in names}


def cases(many):
    """Pairs of names and what was let, every other one such that it can be explained."""
    for seed in range(many):
        names = ["cab", "ab", "xbca", "a", "dabc"][seed % 5]
        names = tuple(names) if seed % 3 else list(names)
        yield names, random_seen(names, seed, random_wants(names, seed) if seed % 2 else None)


def no_names():
    return values_but_rows() + [
        [], (), list("abcdefghijklm"), tuple("abcdefghijklm"), ["a", "a"], ("a", "b", "a"), ["a", "A"], ["a", ""],
        ["abcdefghi"], ["a1"], [None], [1], [True], [["a"]], [("a",)], [b"a"], ["a", Everything()], [Nothing()],
    ]


def no_answers():
    """Values that are not a triple of what was let, of the builds of ABCX."""
    rows = [[("a",), "x", True], (("a",), "x"), (("a",), "x", True, True), (), (("a",),), "axT", ("a", "x", True)]
    rows += [(build, "x", True) for build in no_builds(("a", "b"))]
    rows += [((), skill, True) for skill in values_but_words() + ["y", "ax"]]
    rows += [(("a", "x"), "x", True), (("x",), "x", False), (("a", "b"), "a", False), (("a", "b"), "b", True)]
    rows += [(("x", "a"), "b", True), (("a", "a"), "b", True), (["a"], "x", True), ([], "x", True)]
    rows += [(("a",), "x", let) for let in odd_values() + [0, 1, "True", "", [], [True], (True,)]
             if let is not True and let is not False]
    return rows + odd_values() + [0, 1]


class SeenTest(unittest.TestCase):
    def test_lists_and_tuples_of_triples(self):
        for value in (SEEN, tuple(SEEN), AGAINST, [], (), [((), "a", False)], (((), "a", True),), SEEN * 40):
            self.assertIs(is_seen(ABCX, value), True)
            self.assertIs(is_seen(tuple(ABCX), value), True)

    def test_the_order_of_the_names_is_that_of_builds(self):
        self.assertIs(is_seen(["c", "a", "b"], [(("c", "a"), "b", True)]), True)
        self.assertIs(is_seen(["c", "a", "b"], [(("a", "c"), "b", True)]), False)
        self.assertIs(is_seen(["a"], [((), "a", False)]), True)

    def test_what_is_no_triple(self):
        for row in no_answers():
            self.assertIs(is_seen(ABCX, [row]), False, row)
            self.assertIs(is_seen(ABCX, (row,)), False)
            self.assertIs(is_seen(ABCX, [SEEN[0], row]), False)
            self.assertIs(is_seen(ABCX, (row, SEEN[0])), False)

    def test_values_of_every_other_kind(self):
        for value in values_but_rows() + [SEEN[0], list(SEEN[0]), {SEEN[0]: 1}, iter(SEEN), {"a": SEEN}]:
            self.assertIs(is_seen(ABCX, value), False)

    def test_truths_alone_are_answers(self):
        self.assertIs(is_seen(ABCX, [(("a",), "x", 1)]), False)
        self.assertIs(is_seen(ABCX, [(("a",), "x", 0)]), False)
        self.assertIs(is_seen(ABCX, [(("a",), "x", True), (("a",), "x", False)]), True)

    def test_twelve_names(self):
        self.assertIs(is_seen(NAMES, [(tuple(NAMES[:-1]), "l", False)]), True)
        self.assertIs(is_seen(NAMES, [(tuple(NAMES), "l", False)]), False)


class ExplainsTest(unittest.TestCase):
    def wants(self, **told):
        return {"a": (), "b": (), "c": (), "x": ("a",), **told}

    def test_what_explains_it(self):
        self.assertIs(explains(ABCX, self.wants(), SEEN), True)
        self.assertIs(explains(ABCX, self.wants(a=("b", "c"), b=("x",), c=("a", "b", "x")), SEEN), True)
        self.assertIs(explains(ABCX, dict(reversed(self.wants().items())), tuple(SEEN)), True)
        self.assertIs(explains(["a"], {"a": ()}, []), True)

    def test_what_does_not(self):
        for want in ((), ("b",), ("a", "b"), ("a", "c"), ("a", "b", "c")):
            self.assertIs(explains(ABCX, self.wants(x=want), SEEN), False)
        self.assertIs(explains(ABCX, self.wants(a=("b",)), SEEN + [((), "a", True)]), False)
        self.assertIs(explains(ABCX, self.wants(), SEEN + [((), "a", False)]), False)
        for wants in ({}, self.wants(x=()), self.wants()):
            self.assertIs(explains(ABCX, wants, AGAINST), False)

    def test_less_and_more_skills(self):
        for skill in ABCX:
            less = self.wants()
            del less[skill]
            self.assertIs(explains(ABCX, less, SEEN), False)
            self.assertIs(explains(ABCX, less, []), False)
            self.assertIs(explains(ABCX, {**less, "y": ()}, []), False)
            self.assertIs(explains(ABCX, {**less, Everything(): ()}, []), False)
        for more in ("y", "A", "", 0, None, ("a",)):
            self.assertIs(explains(ABCX, {**self.wants(), more: ()}, []), False)
        self.assertIs(explains(ABCX, {}, []), False)

    def test_what_are_no_wants(self):
        wrong = [["a"], [], ("a", "a"), ("b", "a"), ("x",), ("a", "x"), ("y",), ("",), "a", "", None, 0, True, {"a": 1},
                 {"a"}, (0,), (None,), (("a",),), (Everything(),), (Nothing(),), Everything()]
        for value in wrong:
            self.assertIs(explains(ABCX, self.wants(x=value), []), False)
            self.assertIs(explains(ABCX, self.wants(x=value), SEEN), False)
        for value in odd_values() + ["", "a", 0, 1, [], (), list(self.wants()), tuple(self.wants().items())]:
            self.assertIs(explains(ABCX, value, []), False)
            self.assertIs(explains(ABCX, value, SEEN), False)

    def test_points_tiers_and_bars_do_not_count(self):
        everything = [(tuple(name for name in ABCX if name != skill), skill, True) for skill in ABCX]
        self.assertIs(explains(ABCX, self.wants(), everything), True)

    def test_against_the_document(self):
        counts = {True: 0, False: 0}
        for seed, (names, seen) in enumerate(cases(300)):
            for more in range(4):
                wants = random_wants(names, seed + 1000 * more)
                told = all(wants[skill] in again.right_wants(names, seen, skill) for skill in names)
                self.assertIs(explains(names, wants, seen), told)
                counts[told] += 1
        self.assertGreater(min(counts.values()), 50)


class ToldTestCase(unittest.TestCase):
    def told(self, names, seen, skill):
        return must(names, seen, skill), may(names, seen, skill), next_ask(names, seen, skill)


class ToldTest(ToldTestCase):
    def test_the_example(self):
        self.assertEqual(greatest_wants(ABCX, SEEN),
                         {"a": ("b", "c", "x"), "b": ("a", "c", "x"), "c": ("a", "b", "x"), "x": ("a",)})
        self.assertEqual(self.told(ABCX, SEEN, "x"), (["a"], ["a"], False))
        self.assertEqual(self.told(ABCX, SEEN, "b"), ([], ["a", "c", "x"], True))

    def test_nothing_let_yet(self):
        names = ("c", "a", "b")
        for seen in ([], (), [(("c",), "b", False)]):
            wants = greatest_wants(names, seen)
            self.assertEqual(wants["c"], ("a", "b"))
            self.assertEqual(list(wants), ["c", "a", "b"])
            self.assertEqual(self.told(names, seen, "a"), ([], ["c", "b"], True))
        self.assertEqual(greatest_wants(names, []), {"c": ("a", "b"), "a": ("c", "b"), "b": ("c", "a")})
        # It was refused with all others there: nothing explains it.
        self.assertIsNone(greatest_wants(["a", "b"], [(("a",), "b", False)]))
        self.assertEqual(greatest_wants(["a"], []), {"a": ()})
        self.assertEqual(self.told(["a"], [], "a"), ([], [], False))
        self.assertEqual(self.told(["a"], [((), "a", False)], "a"), ([], [], False))

    def test_let_with_nothing_there(self):
        seen = [((), "x", True)]
        self.assertEqual(self.told(ABCX, seen, "x"), ([], [], False))
        self.assertEqual(greatest_wants(ABCX, seen)["x"], ())

    def test_refused_alone(self):
        self.assertEqual(self.told(ABCX, [(("a", "b"), "x", False)], "x"), (["c"], ["a", "b", "c"], True))
        self.assertEqual(self.told(ABCX, [(("a",), "x", False)], "x"), ([], ["a", "b", "c"], True))
        self.assertEqual(self.told(ABCX, [(("a", "b", "c"), "x", True), (("b", "c"), "x", False)], "x"),
                         (["a"], ["a", "b", "c"], True))

    def test_answers_that_contradict_one_another(self):
        for seen in (AGAINST, AGAINST[::-1], SEEN + AGAINST, [((), "x", True), ((), "x", False)]):
            self.assertIsNone(greatest_wants(ABCX, seen))
            for skill in ABCX:
                self.assertEqual(self.told(ABCX, seen, skill), ([], [], False))

    def test_they_contradict_one_another_for_another_skill(self):
        seen = SEEN + [((), "b", True), (("a",), "b", False)]
        self.assertIsNone(greatest_wants(ABCX, seen))
        self.assertEqual(self.told(ABCX, seen, "x"), ([], [], False))
        self.assertEqual(self.told(ABCX, seen, "b"), ([], [], False))

    def test_against_the_document(self):
        counts = {"none": 0, "known": 0, "open": 0}
        for names, seen in cases(400):
            right = {skill: again.right_wants(names, seen, skill) for skill in names}
            if not all(right.values()):
                self.assertIsNone(greatest_wants(names, seen))
                right = {skill: [] for skill in names}
                counts["none"] += 1
            else:
                most = {skill: max(right[skill], key=len) for skill in names}
                self.assertEqual(greatest_wants(names, seen), most)
                self.assertIs(explains(names, most, seen), True)
            for skill in names:
                wants = right[skill]
                all_have = [name for name in names if wants and all(name in want for want in wants)]
                some_have = [name for name in names if any(name in want for want in wants)]
                self.assertEqual(self.told(names, seen, skill), (all_have, some_have, all_have != some_have))
                counts["open" if all_have != some_have else "known"] += 1
        self.assertGreater(min(counts.values()), 30)

    def test_twelve_names(self):
        names = NAMES
        seen = [(tuple("abcdefghijk"), "l", True), (tuple("abcdefgh"), "l", True), (tuple("bcdefgh"), "l", False),
                (tuple("aefgh"), "l", False), (tuple("acdefghijk"), "l", False)]
        self.assertEqual(self.told(names, seen, "l"), (["a", "b"], list("abcdefgh"), True))
        self.assertEqual(greatest_wants(names, seen)["l"], tuple("abcdefgh"))
        for skill in names:
            right = [want for want in all_builds([name for name in names if name != skill])
                     if all((set(want) <= set(build)) is let for build, asked, let in seen if asked == skill)]
            self.assertEqual(must(names, seen, skill), [name for name in names if all(name in want for want in right)])

    def test_new_lists_and_dicts(self):
        wants = greatest_wants(ABCX, SEEN)
        wants.clear()
        may(ABCX, SEEN, "x").clear()
        must(ABCX, SEEN, "x").append("c")
        self.assertEqual(greatest_wants(ABCX, SEEN)["x"], ("a",))
        self.assertEqual(self.told(ABCX, SEEN, "x"), (["a"], ["a"], False))
        self.assertEqual(len(SEEN), 3)


class WrongTest(unittest.TestCase):
    def raises(self, error, attribute, value, call):
        with self.assertRaises(error) as caught:
            call()
        self.assertIs(getattr(caught.exception, attribute), value)

    def test_what_are_no_names(self):
        for value in no_names():
            self.raises(NoSkill, "skill", value, lambda: is_seen(value, []))
            self.raises(NoSkill, "skill", value, lambda: is_seen(value, None))
            self.raises(NoSkill, "skill", value, lambda: explains(value, None, None))
            self.raises(NoSkill, "skill", value, lambda: greatest_wants(value, None))
            for call in (must, may, next_ask):
                self.raises(NoSkill, "skill", value, lambda: call(value, None, None))
                self.raises(NoSkill, "skill", value, lambda: call(value, [], "a"))

    def test_what_was_not_let(self):
        wrong = values_but_rows() + [[row] for row in no_answers()]
        for value in wrong:
            self.raises(NoSeen, "seen", value, lambda: explains(ABCX, None, value))
            self.raises(NoSeen, "seen", value, lambda: explains(ABCX, {name: () for name in ABCX}, value))
            self.raises(NoSeen, "seen", value, lambda: greatest_wants(ABCX, value))
            for call in (must, may, next_ask):
                self.raises(NoSeen, "seen", value, lambda: call(ABCX, value, "y"))
                self.raises(NoSeen, "seen", value, lambda: call(ABCX, value, "a"))

    def test_what_is_no_skill(self):
        for value in values_but_words() + ["y", "ab"]:
            for seen in ([], SEEN, AGAINST):
                for call in (must, may, next_ask):
                    self.raises(NoSkill, "skill", value, lambda: call(ABCX, seen, value))


class NamesTest(ToldTestCase):
    def test_arguments_by_name(self):
        wants = {"a": (), "b": (), "c": (), "x": ("a",)}
        self.assertIs(is_seen(value=SEEN, names=ABCX), True)
        self.assertIs(explains(seen=SEEN, wants=wants, names=ABCX), True)
        self.assertEqual(greatest_wants(seen=SEEN, names=ABCX)["x"], ("a",))
        self.assertEqual(must(skill="x", seen=SEEN, names=ABCX), ["a"])
        self.assertEqual(may(skill="x", seen=SEEN, names=ABCX), ["a"])
        self.assertIs(next_ask(skill="x", seen=SEEN, names=ABCX), False)

    def test_lists_of_any_order_of_answers_tell_the_same(self):
        for rows in itertools.permutations(SEEN):
            self.assertEqual(self.told(ABCX, list(rows), "x"), (["a"], ["a"], False))
            self.assertEqual(self.told(tuple(ABCX), rows, "x"), (["a"], ["a"], False))


if __name__ == "__main__":
    unittest.main()
