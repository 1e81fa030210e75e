"""[11], and the interface's heading "Stage 10": builds that are carried over to another book, and traps."""

import unittest

from refundtrees.books import Book
from refundtrees.carrying import KINDS, carried, is_trap, lost, never_traps, traps
from refundtrees.errors import NoBuild, NoKind
from refundtrees.reach import comes, way_to
import tests_again as again
from tests_kit import (
    NAMES, all_builds, flat, full_book, knot_book, no_builds, odd_values, random_books, random_pairs, trap_book,
    twelve_book, twelve_plain_book,
)


def lost_ground():
    """The knot book without the skill that its knots grew from: the document's example."""
    return Book(flat(2), 3, wants=[("any", "a", ("b",)), ("any", "b", ("a",))])


def no_kinds():
    return odd_values() + ["", "Fall", "FALL", "fall ", " keep", "kept", "grow", "f", "fallgrown", 0, 1, [], ["fall"],
                           ("grown",), ("fall", "grown", "keep"), b"keep"]


class CarriedTest(unittest.TestCase):
    def told(self, old, new, build, **kinds):
        for kind, kept in kinds.items():
            self.assertEqual(carried(old, new, build, kind), tuple(kept), kind)
            self.assertEqual(lost(old, new, build, kind), [skill for skill in build if skill not in kept], kind)

    def test_the_kinds(self):
        self.assertEqual(KINDS, ("fall", "grown", "keep"))
        self.assertIs(type(KINDS), tuple)

    def test_skills_that_the_new_book_does_not_have(self):
        old, new = Book(flat(4), 4), Book([("b", 1), ("d", 1), ("x", 1)], 4)
        self.told(old, new, ("a", "b", "c", "d"), keep="bd", fall="bd", grown="bd")
        self.told(old, Book([("x", 1)], 4), ("a", "b"), keep="", fall="", grown="")

    def test_another_order_of_the_skills(self):
        old, new = Book(flat(4), 4), Book([("d", 1), ("x", 1), ("b", 2), ("a", 2)], 4)
        self.told(old, new, ("a", "b", "c", "d"), keep="dba", fall="dba", grown="dba")
        self.assertEqual(lost(old, new, ("a", "b", "c", "d"), "fall"), ["c"])

    def test_what_is_lost_is_in_the_order_of_the_old_book(self):
        old, new = Book([("d", 1), ("a", 1), ("c", 1), ("b", 1)], 4), Book(flat(4), 1)
        self.assertEqual(lost(old, new, ("d", "a", "c", "b"), "fall"), ["d", "c", "b"])
        self.assertEqual(lost(old, new, ("d", "a", "c", "b"), "grown"), ["d", "c", "b"])
        self.assertEqual(lost(old, new, ("d", "a", "c", "b"), "keep"), [])

    def test_needs(self):
        old, new = Book(flat(4), 4), Book([("a", 1), ("b", 1), ("c", 2), ("d", 3)], 4, needs=[(2, 2), (3, 2)])
        self.told(old, new, ("a", "b", "c", "d"), keep="abcd", fall="abcd", grown="abcd")
        self.told(old, new, ("a", "c", "d"), keep="acd", fall="a", grown="a")
        self.told(old, new, ("c", "d"), keep="cd", fall="", grown="")

    def test_wants(self):
        old = Book(flat(4), 4)
        new = Book(flat(4), 4, wants=[("all", "b", ("a", "c")), ("any", "d", ("a", "b")), ("count", "c", ("a", "d"), 1)])
        self.told(old, new, ("a", "b", "c", "d"), keep="abcd", fall="abcd", grown="abcd")
        self.told(old, new, ("b", "c", "d"), keep="bcd", fall="", grown="")
        self.told(old, new, ("a", "b", "d"), keep="abd", fall="ad", grown="ad")

    def test_several_skills_go_at_once(self):
        old = Book(flat(4), 4)
        # a and c are not met: both go, although a alone would let c and d stay.
        new = Book(flat(4), 4, wants=[("any", "a", ("b",)), ("any", "c", ("b",)), ("any", "d", ("c",))])
        self.told(old, new, ("a", "c", "d"), keep="acd", fall="", grown="")
        bars = Book(flat(3), 3, wants=[("any", "a", ("c",)), ("any", "b", ("c",))], bars=[("a", "b")])
        self.told(old, bars, ("a", "b"), keep="ab", fall="", grown="")

    def test_what_stands_by_itself_falls_not_and_grows_not(self):
        self.told(knot_book(), lost_ground(), ("a", "b"), keep="ab", fall="ab", grown="")

    def test_the_later_skill_of_the_first_bar(self):
        old = Book(flat(4), 4)
        self.told(old, Book(flat(4), 4, bars=[("c", "a")]), ("a", "b", "c"), keep="abc", fall="ab", grown="ab")
        self.told(old, Book(flat(4), 4, bars=[("a", "c")]), ("a", "b", "c"), keep="abc", fall="ab", grown="ab")
        new = Book(flat(4), 4, bars=[("b", "c"), ("a", "b")])
        self.told(old, new, ("a", "b", "c"), keep="abc", fall="a", grown="ac")
        new = Book(flat(4), 4, bars=[("a", "b"), ("b", "c")])
        self.told(old, new, ("a", "b", "c"), keep="abc", fall="ac", grown="ac")
        new = Book([("c", 1), ("b", 1), ("a", 1)], 4, bars=[("a", "c")])
        self.told(old, new, ("a", "c"), keep="ca", fall="c", grown="c")

    def test_wants_ahead_of_bars_and_bars_ahead_of_points(self):
        old = Book(flat(4), 4)
        new = Book(flat(4), 2, bars=[("a", "b")], wants=[("any", "b", ("d",))])
        self.told(old, new, ("a", "b", "c"), keep="abc", fall="ac", grown="ac")
        new = Book(flat(4), 2, bars=[("a", "b")])
        self.told(old, new, ("a", "b", "c"), keep="abc", fall="ac", grown="ac")
        # What a bar takes away may be what another skill wants.
        new = Book(flat(4), 2, bars=[("a", "b")], wants=[("any", "c", ("b",))])
        self.told(old, new, ("a", "b", "c", "d"), keep="abcd", fall="ad", grown="ad")

    def test_the_latest_skill_for_the_points(self):
        old = Book(flat(4), 4)
        self.told(old, Book(flat(4), 2), ("a", "c", "d"), keep="acd", fall="ac", grown="ac")
        self.told(old, Book(flat(4), 0), ("a", "c", "d"), keep="acd", fall="", grown="")
        new = Book(flat(4), 2, wants=[("any", "a", ("d",))])
        self.told(old, new, ("a", "c", "d"), keep="acd", fall="c", grown="cd")

    def test_skills_that_give_points(self):
        old = Book(flat(4), 4)
        new = Book(flat(4), 1, gives=[("b", 2)])
        self.told(old, new, ("a", "b", "c"), keep="abc", fall="abc", grown="abc")
        self.told(old, new, ("a", "b", "c", "d"), keep="abcd", fall="abc", grown="abc")
        self.told(old, new, ("a", "c", "d"), keep="acd", fall="a", grown="a")
        # The latest goes although it is the one that gives.
        self.told(old, Book(flat(4), 1, gives=[("d", 1)]), ("a", "b", "d"), keep="abd", fall="a", grown="ad")

    def test_something_grown_may_go_where_skills_give_points(self):
        book = Book(flat(3), 1, gives=[("b", 2)], wants=[("any", "b", ("c",))])
        self.assertTrue(again.holds(book, ("b", "c")) and again.holds(book, ("a", "b", "c")))
        self.told(book, book, ("a", "b", "c"), keep="abc", fall="abc", grown="a")
        self.told(book, book, ("b", "c"), keep="bc", fall="bc", grown="bc")

    def test_into_the_same_book(self):
        for book in random_books(60):
            for build in again.good_builds(book):
                for kind in ("fall", "keep"):
                    self.assertEqual(carried(book, book, build, kind), build)
                    self.assertEqual(lost(book, book, build, kind), [])
                self.assertEqual(carried(book, book, build, "grown"), again.carried(book, book, build, "grown"))

    def test_against_the_document(self):
        unlike = [0, 0]
        for old, new in random_pairs(250) + [(Book(flat(5), 5), new) for new in random_books(100)]:
            for build in again.good_builds(old):
                told = {kind: again.carried(old, new, build, kind) for kind in KINDS}
                self.told(old, new, build, **told)
                unlike[0] += told["keep"] != told["fall"]
                unlike[1] += told["fall"] != told["grown"]
        self.assertGreater(min(unlike), 20)

    def test_what_falls_or_grows_holds(self):
        for old, new in random_pairs(100):
            for build in again.good_builds(old):
                for kind in ("fall", "grown"):
                    self.assertTrue(again.holds(new, carried(old, new, build, kind)))

    def test_books_of_twelve(self):
        old, new = twelve_plain_book(), twelve_book()
        for build in again.good_builds(old)[::9]:
            for kind in KINDS:
                self.assertEqual(carried(old, new, build, kind), again.carried(old, new, build, kind))
        other = Book([(name, 1) for name in reversed(NAMES)], 6)
        for build in again.good_builds(new)[::5]:
            self.told(new, other, build, **{kind: again.carried(new, other, build, kind) for kind in KINDS})


class TrapTest(unittest.TestCase):
    def test_in_order(self):
        wants = [("all", "a", ("b",)), ("all", "b", ("a",)), ("all", "c", ("d",)), ("all", "d", ("c",))]
        book = Book(flat(5), 5, wants=wants)
        told = [("a", "b"), ("c", "d"), ("a", "b", "e"), ("c", "d", "e"), ("a", "b", "c", "d"), tuple("abcde")]
        self.assertEqual(traps(book), told)
        other = Book([("b", 1), ("a", 1), ("c", 1)], 3, wants=wants[:2])
        self.assertEqual(traps(other), [("b", "a"), ("b", "a", "c")])

    def test_the_empty_build(self):
        for book in random_books(40):
            self.assertIs(is_trap(book, ()), False)
            self.assertNotIn((), traps(book))

    def test_a_reset_does_not_help(self):
        for reset in (None, 0, 5):
            self.assertIs(is_trap(trap_book(reset), ("a", "b")), True)
            self.assertEqual(traps(trap_book(reset)), [("a", "b")])

    def test_a_knot_that_has_lost_its_ground(self):
        self.assertIs(is_trap(knot_book(), ("a", "b")), False)
        self.assertIs(is_trap(lost_ground(), ("a", "b")), True)
        self.assertIs(is_trap(knot_book().changed(points=2), ("a", "b")), True)

    def test_against_the_document(self):
        seen = 0
        for book in random_books(300):
            table = again.all_moves(book)
            told = again.traps(table)
            self.assertEqual(traps(book), told)
            for build in table:
                self.assertIs(is_trap(book, build), build in told)
                self.assertIs(is_trap(book, build), way_to(book, build, ()) is None)
            seen += len(told)
        self.assertGreater(seen, 30)

    def test_a_book_of_twelve(self):
        book = twelve_book().changed(wants=[("any", "a", ("b", "c")), ("any", "b", ("a",)), ("all", "c", ("a", "d"))])
        table = again.all_moves(book)
        self.assertEqual(traps(book), again.traps(table))
        self.assertGreater(len(traps(book)), 10)
        for build in list(table)[::20]:
            self.assertIs(is_trap(book, build), not comes(book, build))


class NeverTrapsTest(unittest.TestCase):
    def test_knots_that_have_lost_their_ground(self):
        told = {kind: never_traps(knot_book(), lost_ground(), kind) for kind in KINDS}
        self.assertEqual(told, {"fall": False, "grown": True, "keep": False})

    def test_what_does_not_hold(self):
        told = {kind: never_traps(Book(flat(3), 3), Book(flat(3), 2), kind) for kind in KINDS}
        self.assertEqual(told, {"fall": True, "grown": True, "keep": False})

    def test_nothing_is_caught(self):
        for kind in KINDS:
            self.assertIs(never_traps(Book(flat(3), 2), Book(flat(3), 3), kind), True)
            self.assertIs(never_traps(Book(flat(3), 2), Book([("x", 1)], 0), kind), True)

    def test_traps_of_the_old_book_are_not_asked(self):
        for kind in KINDS:
            self.assertIs(never_traps(trap_book(), trap_book(), kind), True)
            self.assertIs(never_traps(trap_book(0), trap_book(), kind), True)

    def test_a_reset_does_not_help(self):
        for reset in (None, 0):
            self.assertIs(never_traps(knot_book(), lost_ground().changed(reset=reset), "fall"), False)
            self.assertIs(never_traps(knot_book().changed(reset=reset), lost_ground(), "keep"), False)

    def test_against_the_document(self):
        seen = {}
        for old, new in random_pairs(200) + [(knot_book(), new) for new in random_books(60)]:
            traps_of_new = again.traps(again.all_moves(new))
            for kind in KINDS:
                ends = [again.carried(old, new, build, kind) for build in again.come_from(again.all_moves(old), ())]
                told = all(again.holds(new, end) and end not in traps_of_new for end in ends)
                self.assertIs(never_traps(old, new, kind), told)
                seen[kind, told] = seen.get((kind, told), 0) + 1
        self.assertEqual(sorted(seen), [("fall", False), ("fall", True), ("grown", True), ("keep", False),
                                        ("keep", True)])

    def test_books_of_twelve(self):
        old, new = twelve_plain_book(), twelve_book()
        told = {kind: never_traps(old, new, kind) for kind in KINDS}
        self.assertEqual(told, {"fall": True, "grown": True, "keep": False})
        everything = Book(flat(12), 12)
        wants = [("any", name, tuple(other for other in NAMES if other != name)) for name in NAMES]
        told = {kind: never_traps(everything, Book(flat(12), 12, wants=wants), kind) for kind in KINDS}
        self.assertEqual(told, {"fall": False, "grown": True, "keep": False})


class PromiseTest(unittest.TestCase):
    def test_from_what_is_grown_a_way_leads_to_the_empty_build(self):
        for old, new in random_pairs(80):
            for build in again.good_builds(old):
                self.assertIsNotNone(way_to(new, carried(old, new, build, "grown"), ()))


class WrongTest(unittest.TestCase):
    def raises(self, error, attribute, value, call):
        with self.assertRaises(error) as caught:
            call()
        self.assertIs(getattr(caught.exception, attribute), value)

    def test_what_is_no_build_that_holds(self):
        book, new = full_book(), Book(flat(4), 4)
        bad = [build for build in all_builds("abcd") if not again.holds(book, build)]
        for value in no_builds("abcd") + bad:
            for call in (carried, lost):
                self.raises(NoBuild, "build", value, lambda: call(book, new, value, "Fall"))
                for kind in KINDS:
                    self.raises(NoBuild, "build", value, lambda: call(book, new, value, kind))
            self.raises(NoBuild, "build", value, lambda: is_trap(book, value))

    def test_a_build_of_the_new_book_alone(self):
        old, new = Book(flat(2), 1), Book([("x", 1), ("a", 1), ("b", 1)], 3)
        for build in (("x",), ("a", "b"), ("x", "a")):
            self.raises(NoBuild, "build", build, lambda: carried(old, new, build, "keep"))

    def test_what_is_no_kind(self):
        for value in no_kinds():
            for call in (carried, lost):
                self.raises(NoKind, "kind", value, lambda: call(full_book(), full_book(), (), value))
            self.raises(NoKind, "kind", value, lambda: never_traps(full_book(), full_book(), value))

    def test_new_lists(self):
        for call in (lambda: traps(trap_book()), lambda: lost(Book(flat(3), 3), Book(flat(1), 1), ("b",), "fall")):
            told = call()
            kept = list(told)
            told.clear()
            self.assertEqual(call(), kept)
            self.assertIs(type(kept), list)


class NamesTest(unittest.TestCase):
    def test_arguments_by_name(self):
        old, new = Book(flat(3), 3), Book(flat(2), 1)
        self.assertEqual(carried(kind="fall", build=("a", "b"), new=new, old=old), ("a",))
        self.assertEqual(lost(kind="fall", build=("a", "b"), new=new, old=old), ["b"])
        self.assertIs(never_traps(kind="keep", new=new, old=old), False)
        self.assertIs(is_trap(build=("a", "b"), book=trap_book()), True)
        self.assertEqual(traps(book=trap_book()), [("a", "b")])


if __name__ == "__main__":
    unittest.main()
