"""The class Walk of the interface's heading "Stage 6", and its trials."""

import unittest
from unittest import mock

from refundtrees.books import Book
from refundtrees.errors import NoBuild, NoStep, NothingBack, NoWay
from refundtrees.holding import steps
from refundtrees.sparing import Walk, way_end, way_price
import tests_again as again
from tests_kit import all_builds, flat, full_book, no_builds, no_steps, odd_values, random_books, values_but_rows

WAY = [("take", "a"), ("take", "b"), ("take", "e"), ("give", "e"), ("reset",), ("take", "c")]


def book_of_ways():
    skills = [("a", 1), ("b", 1), ("c", 1), ("d", 1), ("e", 2), ("f", 2)]
    return Book(skills, 4, needs=[(2, 2)], prices=[("e", 5), ("a", 0)], reset=4)


def walked(way=WAY, book=None):
    walk = Walk(book or book_of_ways())
    walk += way
    return walk


class Kept(Exception):
    pass


class WalkTestCase(unittest.TestCase):
    def told(self, walk):
        """All that a walk tells."""
        return [walk.now(), walk.done(), walk.listed(), walk.cost(), len(walk)]

    def same(self, walk, ahead):
        self.assertEqual(self.told(walk), ahead)

    def raises(self, error, attribute, value, call):
        with self.assertRaises(error) as caught:
            call()
        self.assertIs(getattr(caught.exception, attribute), value)


class PlayedTest(WalkTestCase):
    def test_a_new_walk(self):
        self.assertEqual(self.told(Walk(book_of_ways())), [(), [], [], 0, 0])
        self.assertEqual(self.told(Walk(book_of_ways(), ("a", "b", "e"))), [("a", "b", "e"), [], [], 0, 0])

    def test_step_by_step(self):
        walk = Walk(book_of_ways())
        table = again.all_moves(book_of_ways())
        for many, step in enumerate(WAY, 1):
            cost, end = again.played(table, (), WAY[:many])
            self.assertEqual(walk(step), end)
            self.assertEqual(self.told(walk), [end, WAY[:many], WAY[:many], cost, many])
            self.assertIs(type(walk.now()), tuple)
        self.assertEqual((walk.now(), walk.cost()), (("c",), 9))

    def test_from_another_build(self):
        walk = Walk(book_of_ways(), ("a", "b", "e"))
        self.assertEqual(walk(("give", "e")), ("a", "b"))
        self.assertEqual(self.told(walk), [("a", "b"), [("give", "e")], [("give", "e")], 5, 1])

    def test_many_walks_against_the_document(self):
        for book in random_books(60):
            table = again.all_moves(book)
            for build in table:
                walk, end, way = Walk(book, build), build, []
                for place in range(8):
                    for step in [step for step, _, _ in table[end]]:
                        self.assertIs(step in walk, True)
                    if table[end]:
                        step, _, end = table[end][(place * 5 + len(build)) % len(table[end])]
                        way.append(step)
                        self.assertEqual(walk(step), end)
                cost = again.played(table, build, way)[0]
                self.assertEqual(self.told(walk), [end, way, way, cost, len(way)])
                self.assertEqual((way_price(book, build, way), way_end(book, build, way)), (cost, end))

    def test_what_is_no_build_that_holds(self):
        bad = [build for build in all_builds("abcd") if not again.holds(full_book(), build)]
        for value in no_builds("abcd") + bad:
            self.raises(NoBuild, "build", value, lambda: Walk(full_book(), value))
            self.raises(NoBuild, "build", value, lambda: Walk(book=full_book(), build=value))

    def test_what_is_no_step(self):
        walk = walked()
        ahead = self.told(walk)
        for value in no_steps() + [("give", "b"), ("take", "c"), ("take", "e"), ["give", "c"]]:
            self.raises(NoStep, "step", value, lambda: walk(value))
            self.raises(NoStep, "step", value, lambda: walk(step=value))
            self.same(walk, ahead)

    def test_a_reset_that_is_not_possible(self):
        self.assertRaises(NoStep, Walk(book_of_ways()), ("reset",))
        self.assertRaises(NoStep, Walk(book_of_ways().changed(reset=None), ("a",)), ("reset",))
        self.assertEqual(Walk(book_of_ways(), ("a",))(("reset",)), ())

    def test_what_was_told_is_changed_behind(self):
        walk = walked()
        ahead = self.told(walk)
        self.assertIsNot(walk.done(), walk.done())
        self.assertIsNot(walk.listed(), walk.listed())
        walk.done().clear()
        walk.listed().append(("reset",))
        self.same(walk, ahead)


class AddTest(WalkTestCase):
    def test_lists_tuples_and_nothing(self):
        for form in (WAY, tuple(WAY)):
            walk = Walk(book_of_ways())
            walk += form
            self.assertEqual(walk.done(), WAY)
            walk += form[:0]
            self.assertEqual(walk.done(), WAY)

    def test_it_is_the_very_object(self):
        walk = kept = Walk(book_of_ways())
        walk += WAY
        self.assertIs(walk, kept)
        walk += []
        self.assertIs(walk, kept)
        self.assertEqual(kept.done(), WAY)

    def test_it_goes_on_from_where_it_is(self):
        walk = Walk(book_of_ways(), ("a", "b"))
        walk(("take", "e"))
        walk += [("give", "e"), ("take", "f")]
        walk += (("take", "c"),)
        self.assertEqual(self.told(walk)[0], ("a", "b", "c", "f"))
        self.assertEqual((walk.cost(), len(walk)), (5, 4))

    def test_all_or_none(self):
        for index in range(7):
            for wrong in (("take", "x"), None, ["take", "a"], ("give", "f")):
                walk = walked([("take", "d")])
                kept, ahead = walk, self.told(walk)
                way = [("take", "a"), ("take", "b"), ("give", "a"), ("reset",), ("take", "c"), ("take", "b")]
                with self.assertRaises(NoWay) as caught:
                    walk += way[:index] + [wrong] + way[index:]
                self.assertEqual(caught.exception.index, index)
                self.assertIs(walk, kept)
                self.same(walk, ahead)

    def test_what_is_no_list_or_tuple(self):
        walk = walked()
        ahead = self.told(walk)
        for value in values_but_rows() + [walk, Walk(book_of_ways()), iter(WAY)]:
            with self.assertRaises(NoWay) as caught:
                walk += value
            self.assertIsNone(caught.exception.index)
            self.same(walk, ahead)

    def test_lists_are_changed_behind(self):
        way = list(WAY)
        walk = walked(way)
        way.clear()
        self.assertEqual(walk.done(), WAY)


class BackTest(WalkTestCase):
    def test_one_and_several(self):
        for many in range(1, 7):
            walk = walked()
            self.assertIsNone(walk.back(many))
            self.assertEqual(walk, walked(WAY[:-many]))
            self.assertEqual(self.told(walk), self.told(walked(WAY[:-many])))
        walk = walked()
        self.assertIsNone(walk.back())
        self.assertEqual(walk.done(), WAY[:-1])

    def test_over_a_reset_and_on_again(self):
        walk = walked()
        walk.back(2)
        self.assertEqual((walk.now(), walk.cost()), (("a", "b"), 5))
        walk(("take", "f"))
        self.assertEqual(walk.now(), ("a", "b", "f"))

    def test_back_to_another_build(self):
        walk = Walk(book_of_ways(), ("a", "b", "e"))
        walk += [("give", "e"), ("reset",)]
        walk.back(2)
        self.assertEqual(self.told(walk), [("a", "b", "e"), [], [], 0, 0])

    def test_numbers_that_are_too_great_and_what_is_none(self):
        walk = walked()
        ahead = self.told(walk)
        for value in odd_values() + [0, -1, 7, 10**30, "1", [1], (1,), ""]:
            self.raises(NothingBack, "many", value, lambda: walk.back(value))
            self.raises(NothingBack, "many", value, lambda: walk.back(many=value))
            self.same(walk, ahead)

    def test_nothing_was_done(self):
        walk = Walk(book_of_ways(), ("a",))
        for call in (walk.back, lambda: walk.back(1), lambda: walk.back(0)):
            self.assertRaises(NothingBack, call)
        with self.assertRaises(NothingBack) as caught:
            walk.back()
        self.assertEqual(caught.exception.many, 1)


class InTest(WalkTestCase):
    def test_just_the_possible_steps(self):
        walk = Walk(book_of_ways())
        for step in [*WAY, ("give", "c")]:
            told = list(steps(book_of_ways(), walk.now()))
            every = [(word, name) for word in ("take", "give") for name in "abcdef"] + [("reset",)]
            for value in every:
                self.assertIs(value in walk, value in told)
                self.assertIs(list(value) in walk, False)
            walk(step)

    def test_any_value(self):
        for walk in (Walk(book_of_ways()), walked()):
            for value in no_steps() + [mock.ANY, walk, [WAY[0]], ("take", mock.ANY)]:
                self.assertIs(value in walk, False)
            self.assertIs(value not in walk, True)


class EqualTest(WalkTestCase):
    def test_book_first_build_and_steps(self):
        self.assertEqual(walked(), walked())
        self.assertIs(walked() == walked(), True)
        self.assertIs(walked() != walked(), False)
        others = [walked(WAY[:-1]), walked(WAY[:4] + [("give", "b"), ("give", "a"), ("take", "c")]),
                  walked(WAY, book_of_ways().changed(reset=5)), walked(WAY, book_of_ways().changed(needs=[(2, 1)])),
                  Walk(book_of_ways(), ("c",)), Walk(book_of_ways())]
        for other in others:
            self.assertIs(walked() == other, False)
            self.assertIs(walked() != other, True)

    def test_where_it_is_alone_does_not_count(self):
        one, other = walked([("take", "a"), ("take", "b")]), walked([("take", "b"), ("take", "a")])
        self.assertEqual(one.now(), other.now())
        self.assertNotEqual(one, other)
        self.assertNotEqual(Walk(book_of_ways(), ("a",)), walked([("take", "a")]))

    def test_the_first_build_counts_where_nothing_was_done(self):
        self.assertEqual(Walk(book_of_ways(), ("a",)), Walk(book_of_ways(), ("a",)))
        self.assertNotEqual(Walk(book_of_ways(), ("a",)), Walk(book_of_ways(), ("b",)))
        self.assertNotEqual(Walk(book_of_ways(), ("a",)), Walk(book_of_ways()))

    def test_walks_equal_nothing_else(self):
        for other in odd_values() + [mock.ANY, WAY, tuple(WAY), [], (), "", 0, book_of_ways(), walked().now()]:
            self.assertIs(walked() == other, False)
            self.assertIs(Walk(book_of_ways()) == other, False)
            self.assertIs(walked() != other, True)


class TwinTest(WalkTestCase):
    def test_equal_and_on_by_itself(self):
        walk = walked()
        twin = walk.twin()
        self.assertEqual(twin, walk)
        self.assertIsNot(twin, walk)
        self.assertIs(type(twin), Walk)
        self.assertEqual(self.told(twin), self.told(walk))
        ahead = self.told(walk)
        twin(("take", "d"))
        self.same(walk, ahead)
        walk.back(6)
        self.assertEqual(twin.done(), WAY + [("take", "d")])
        self.assertNotEqual(twin, walk)
        twin.back(7)
        self.assertEqual(twin, walk)

    def test_of_another_first_build(self):
        walk = Walk(book_of_ways(), ("a", "b", "e"))
        walk(("give", "e"))
        twin = walk.twin()
        twin.back()
        self.assertEqual((twin, twin.now()), (Walk(book_of_ways(), ("a", "b", "e")), ("a", "b", "e")))

    def test_in_a_trial(self):
        walk = walked(WAY[:2])
        with walk.trial():
            walk(("take", "c"))
            twin = walk.twin()
            walk(("take", "d"))
        self.assertEqual(walk, walked(WAY[:2]))
        self.assertEqual(twin.now(), ("a", "b", "c"))


class TrialTest(WalkTestCase):
    def test_gives_the_walk_itself(self):
        walk = walked()
        with walk.trial() as given:
            self.assertIs(given, walk)

    def test_without_keep(self):
        walk = walked()
        ahead = self.told(walk)
        with walk.trial():
            walk(("take", "a"))
            walk.back(4)
            walk += [("take", "d"), ("reset",)]
        self.same(walk, ahead)
        self.assertEqual(walk, walked())

    def test_with_keep(self):
        walk = walked()
        trial = walk.trial()
        with trial:
            walk.back(6)
            self.assertIsNone(trial.keep())
            walk += [("take", "d"), ("reset",)]
        self.assertEqual(walk, walked([("take", "d"), ("reset",)]))

    def test_keep_behind_the_block_is_too_late(self):
        walk = walked()
        trial = walk.trial()
        with trial:
            walk.back()
        trial.keep()
        self.assertEqual(walk, walked())

    def test_as_it_was_ahead_of_the_block(self):
        walk = walked(WAY[:1])
        trial = walk.trial()
        walk(("take", "b"))
        with trial:
            walk(("take", "c"))
        self.assertEqual(walk, walked(WAY[:2]))

    def test_an_exception_passes_on(self):
        for kept in (False, True):
            for error in (Kept("x"), NoStep(1), KeyboardInterrupt(), StopIteration(), GeneratorExit()):
                walk = walked()
                trial = walk.trial()
                with self.assertRaises(type(error)) as caught:
                    with trial:
                        walk.back(3)
                        if kept:
                            trial.keep()
                        raise error
                self.assertIs(caught.exception, error)
                self.assertEqual(walk, walked())

    def test_an_exception_that_is_caught_inside(self):
        walk = walked()
        trial = walk.trial()
        with trial:
            self.assertRaises(NoStep, walk, ("take", "c"))
            walk(("take", "a"))
            trial.keep()
        self.assertEqual(walk.done(), WAY + [("take", "a")])

    def test_within_another_trial(self):
        for outer_kept in (False, True):
            for inner_kept in (False, True):
                walk = walked(WAY[:1])
                outer = walk.trial()
                with outer:
                    walk(("take", "b"))
                    inner = walk.trial()
                    with inner as given:
                        self.assertIs(given, walk)
                        walk(("take", "c"))
                        if inner_kept:
                            inner.keep()
                    told = ("a", "b", "c") if inner_kept else ("a", "b")
                    self.assertEqual(walk.now(), told)
                    if outer_kept:
                        outer.keep()
                self.assertEqual(walk.now(), told if outer_kept else ("a",))

    def test_nothing_was_done(self):
        walk = Walk(book_of_ways())
        with walk.trial():
            pass
        self.assertEqual(walk, Walk(book_of_ways()))


class TryingTest(WalkTestCase):
    def guest(self, walk):
        walk(("take", "d"))
        return [walk, len(walk)]

    def test_what_the_guest_returns(self):
        walk = walked()
        given, many = walk.trying(self.guest)
        self.assertIs(given, walk)
        self.assertEqual(many, 7)
        marks = [None, object(), (), [1], False]
        for mark in marks:
            self.assertIs(walk.trying(lambda given: mark), mark)

    def test_kept(self):
        walk = walked()
        walk.trying(self.guest, kept=True)
        self.assertEqual(walk, walked(WAY + [("take", "d")]))

    def test_not_kept(self):
        for value in odd_values() + [0, 1, "True", "", [True], (), 2]:
            if value is not True:
                walk = walked()
                walk.trying(self.guest, kept=value)
                self.assertEqual(walk, walked())
        walk = walked()
        walk.trying(self.guest)
        self.assertEqual(walk, walked())

    def test_an_exception_passes_on(self):
        error = Kept("x")

        def guest(walk):
            walk.back(4)
            raise error

        for kept in (False, True):
            walk = walked()
            with self.assertRaises(Kept) as caught:
                walk.trying(guest, kept=kept)
            self.assertIs(caught.exception, error)
            self.assertEqual(walk, walked())

    def test_within_another(self):
        walk = walked(WAY[:1])
        walk.trying(lambda outer: outer.trying(self.guest, kept=True), kept=False)
        self.assertEqual(walk, walked(WAY[:1]))
        walk.trying(lambda outer: outer.trying(self.guest, kept=True), kept=True)
        self.assertEqual(walk.now(), ("a", "d"))
        walk.trying(lambda outer: outer.trying(lambda inner: inner.back(2)), kept=True)
        self.assertEqual(walk.now(), ("a", "d"))

    def test_kept_is_told_by_name_alone(self):
        walk = walked()
        with self.assertRaises(TypeError):
            walk.trying(self.guest, True)
        self.assertEqual(walk, walked())


class NamesTest(WalkTestCase):
    def test_arguments_by_name(self):
        walk = Walk(book=book_of_ways(), build=("a",))
        self.assertEqual(walk(step=("take", "b")), ("a", "b"))
        walk.back(many=1)
        self.assertEqual(walk, Walk(build=("a",), book=book_of_ways()))
        self.assertEqual(walk.trying(guest=lambda given: given(step=("take", "c")), kept=True), ("a", "c"))
        self.assertEqual((walk.now(), walk.done(), walk.cost(), walk.listed()),
                         (("a", "c"), [("take", "c")], 0, [("take", "c")]))


if __name__ == "__main__":
    unittest.main()
