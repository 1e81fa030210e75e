"""[3], [11], and the class Player of the interface's heading "Stage 15"."""

import random
import unittest

from refundtrees.books import Book
from refundtrees.carrying import KINDS
from refundtrees.errors import NoBook, NoBuild, NoKind, NoNumber, NoStep, NothingBack
from refundtrees.live import Player
import tests_again as again
from tests_kit import (
    Everything, NAMES, flat, knot_book, odd_values, random_books, random_pairs, renamed, twelve_book,
    twelve_plain_book, values_but_numbers,
)


def tree():
    skills = [("a", 1), ("b", 1), ("c", 1), ("d", 1), ("e", 2), ("f", 2)]
    return Book(skills, 4, needs=[(2, 2)], prices=[("e", 5), ("a", 0)], reset=4)


def less():
    """A book that lets less than tree(), in another order, with other prices."""
    return Book([("d", 1), ("c", 1), ("a", 1), ("e", 1)], 2, wants=[("any", "e", ("d",))], prices=[("a", 7)])


def played(*skills, book=None, carry="grown"):
    """A player that has taken some skills."""
    player = Player(book or tree(), carry=carry)
    for skill in skills:
        player.take(skill)
    return player


def told(player):
    """All that a player tells."""
    return [player.points, player.carry, player.now(), player.spent(), player.asks(), len(player)]


def told_without_carry(player):
    rows = told(player)
    return rows[:1] + rows[2:]


def no_skills():
    return odd_values() + ["", "x", "A", "ab", 0, 1, [], ["a"], (), ("a",), ("take", "a"), b"a", Everything()]


def no_kinds():
    return odd_values() + ["", "Fall", "keeps", 0, [], ["fall"], ("grown",), KINDS, b"keep"]


class Left(Exception):
    pass


class PlayerTestCase(unittest.TestCase):
    def raises(self, player, error, attribute, value, call):
        """The told error is raised, and nothing has changed."""
        ahead, many = told(player), len(player)
        with self.assertRaises(error) as caught:
            call()
        self.assertEqual(type(caught.exception), error)
        found = getattr(caught.exception, attribute)
        self.assertTrue(found is value or found == value, (found, value))
        self.assertEqual(told(player), ahead)
        self.assertEqual(len(player), many)


class StartTest(PlayerTestCase):
    def test_a_new_player(self):
        self.assertEqual(told(Player(tree())),
                         [4, "grown", (), 0, [("take", name) for name in "abcd"], 0])
        for kind in KINDS:
            self.assertEqual(Player(tree(), carry=kind).carry, kind)
        self.assertEqual(Player(carry="keep", book=tree()).carry, "keep")

    def test_what_is_no_kind(self):
        for value in no_kinds():
            with self.assertRaises(NoKind) as caught:
                Player(tree(), carry=value)
            self.assertIs(caught.exception.kind, value)
            player = played("a")
            self.raises(player, NoKind, "kind", value, lambda: player.carry_by(value))
            self.raises(player, NoKind, "kind", value, lambda: player.carry_by(carry=value))

    def test_carry_is_told_by_name_alone(self):
        with self.assertRaises(TypeError):
            Player(tree(), "fall")

    def test_properties_are_read_alone(self):
        player = played("a")
        for name in ("points", "carry"):
            with self.assertRaises(AttributeError):
                setattr(player, name, getattr(player, name))


class StepTest(PlayerTestCase):
    def test_steps(self):
        player = Player(tree())
        self.assertIsNone(player.take("b"))
        self.assertIsNone(player.take("a"))
        self.assertEqual(told(player)[2:4], [("a", "b"), 0])
        player.take("e")
        self.assertIsNone(player.give("e"))
        self.assertEqual(told(player)[2:4], [("a", "b"), 5])
        player.give("b")
        self.assertEqual(told(player)[2:4], [("a",), 6])
        self.assertEqual(player.asks(), [("take", "b"), ("take", "c"), ("take", "d"), ("give", "a"), ("reset",)])
        self.assertIsNone(player.restart())
        self.assertEqual(told(player)[2:], [(), 10, [("take", name) for name in "abcd"], 6])

    def test_what_is_not_possible(self):
        player = played("a", "b", "e")
        for skill in no_skills() + ["a", "b", "e"]:
            self.raises(player, NoStep, "step", ("take", skill), lambda: player.take(skill))
            self.raises(player, NoStep, "step", ("take", skill), lambda: player.take(skill=skill))
        for skill in no_skills() + ["a", "b", "c", "f"]:
            self.raises(player, NoStep, "step", ("give", skill), lambda: player.give(skill))
            self.raises(player, NoStep, "step", ("give", skill), lambda: player.give(skill=skill))

    def test_the_step_in_the_error(self):
        player = played("a", "b", "c", "d")
        for step, call in ((("take", "e"), lambda: player.take("e")), (("give", "f"), lambda: player.give("f"))):
            with self.assertRaises(NoStep) as caught:
                call()
            self.assertEqual(caught.exception.step, step)
            self.assertIs(type(caught.exception.step), tuple)

    def test_a_reset_that_is_not_possible(self):
        for player in (Player(tree()), played("a", book=tree().changed(reset=None))):
            self.raises(player, NoStep, "step", ("reset",), player.restart)
        player = played("a", book=tree().changed(reset=0))
        player.restart()
        self.assertEqual((player.now(), player.spent()), ((), 0))

    def test_points_too_few_for_the_rest(self):
        book = Book(flat(3), 0, gives=[("a", 2)])
        player = played("a", "b", book=book)
        self.assertEqual(player.points, 0)
        self.raises(player, NoStep, "step", ("give", "a"), lambda: player.give("a"))
        self.raises(player, NoStep, "step", ("take", "c"), lambda: player.take("c"))

    def test_asks_are_a_new_list(self):
        player = played("a")
        ahead = told(player)
        player.asks().clear()
        self.assertEqual(told(player), ahead)
        self.assertIs(type(player.asks()), list)


class RaiseTest(PlayerTestCase):
    def test_more_points_the_same_and_12(self):
        player = played("a", "b", "c", "d")
        self.assertIsNone(player.raise_to(5))
        self.assertEqual(told(player)[:4], [5, "grown", ("a", "b", "c", "d"), 0])
        player.take("e")
        player.raise_to(5)
        self.assertEqual((player.points, len(player)), (5, 7))
        player.raise_to(points=12)
        player.take("f")
        self.assertEqual((player.points, player.now()), (12, tuple("abcdef")))
        self.assertIsNone(player.raise_to(12))

    def test_fewer_and_what_is_no_number(self):
        player = played("a")
        player.raise_to(6)
        for value in values_but_numbers() + [-1, 0, 3, 4, 5, 13, 10**30]:
            self.raises(player, NoNumber, "value", value, lambda: player.raise_to(value))
        player.undo()
        player.raise_to(4)
        self.assertEqual(player.points, 4)

    def test_true_is_no_number(self):
        player = Player(Book(flat(2), 0))
        for value in (True, False):
            self.raises(player, NoNumber, "value", value, lambda: player.raise_to(value))
        player.raise_to(1)
        self.assertEqual(player.points, 1)

    def test_the_book_is_else_as_it_was(self):
        book = tree()
        player = played("a", book=book)
        player.raise_to(9)
        self.assertEqual(book.points, 4)
        player.restart()
        self.assertEqual(player.spent(), 4)
        self.assertEqual(again.moves(book.changed(points=9), ()), [(step, 0, (step[1],)) for step in player.asks()])


class MoveTest(PlayerTestCase):
    def test_by_each_way(self):
        for kind, kept, gone in (("fall", ("a",), ["b", "e"]), ("grown", ("a",), ["b", "e"])):
            player = played("a", "b", "e", carry=kind)
            self.assertEqual(player.move_to(less()), gone)
            self.assertEqual(told(player)[:4], [2, kind, kept, 0])
        player = played("a", "d", "c", "e", carry="fall")
        self.assertEqual(player.move_to(less()), ["a", "e"])
        self.assertEqual(player.now(), ("d", "c"))
        player = played("c", "a", carry="keep")
        self.assertEqual(player.move_to(book=less()), [])
        self.assertEqual(player.now(), ("c", "a"))

    def test_the_ways_differ(self):
        ground = Book(flat(2), 3, wants=[("any", "a", ("b",)), ("any", "b", ("a",))])
        for kind, kept in (("fall", ("a", "b")), ("grown", ()), ("keep", ("a", "b"))):
            player = played("c", "a", "b", book=knot_book(), carry=kind)
            player.give("c")
            self.assertEqual(player.move_to(ground), ["a", "b"] if kind == "grown" else [])
            self.assertEqual((player.now(), player.spent()), (kept, 1))
            self.assertEqual(player.asks(), [])

    def test_by_keep_to_what_does_not_hold(self):
        player = played("a", "b", "c", "d", carry="keep")
        self.raises(player, NoBuild, "build", ("d", "c", "a"), lambda: player.move_to(less()))
        other = played("a", "b", carry="keep")
        self.raises(other, NoBuild, "build", ("a", "b"), lambda: other.move_to(tree().changed(bars=[("a", "b")])))
        other.carry_by("fall")
        self.assertEqual(other.move_to(tree().changed(bars=[("a", "b")])), ["b"])

    def test_what_is_no_book(self):
        for player in (played("a"), Player(tree(), carry="keep")):
            for value in odd_values() + ["", "book", 0, 1, [], (), Book, tree().skills(), player]:
                with self.assertRaises(NoBook) as caught:
                    player.move_to(value)
                self.assertEqual(caught.exception.part, "book")
                self.raises(player, NoBook, "part", "book", lambda: player.move_to(value))

    def test_other_prices_from_then_on(self):
        player = played("a", "d")
        player.give("a")
        player.take("a")
        player.move_to(less())
        self.assertEqual((player.spent(), player.points), (0, 2))
        player.give("a")
        self.assertEqual((player.spent(), player.now()), (7, ("d",)))
        self.raises(player, NoStep, "step", ("reset",), player.restart)
        player.undo()
        player.undo()
        player.restart()
        self.assertEqual((player.spent(), player.points), (4, 4))

    def test_what_goes_is_in_the_order_of_the_old_book(self):
        old = Book([("c", 1), ("a", 1), ("b", 1)], 3)
        player = played("a", "b", "c", book=old)
        self.assertEqual(player.move_to(Book(flat(3), 0)), ["c", "a", "b"])

    def test_into_the_same_book(self):
        player = played("a", "b")
        self.assertEqual(player.move_to(tree()), [])
        self.assertEqual((player.now(), len(player)), (("a", "b"), 3))

    def test_points_fall_with_the_book_and_can_be_raised_again(self):
        player = Player(tree())
        player.raise_to(9)
        player.move_to(less())
        self.assertEqual(player.points, 2)
        player.raise_to(3)
        self.assertEqual(player.points, 3)

    def test_books_of_twelve(self):
        player = played("a", "b", "c", "e", "f", "d", book=twelve_plain_book(), carry="fall")
        build = player.now()
        self.assertEqual(player.move_to(twelve_book()),
                         [skill for skill in build
                          if skill not in again.carried(twelve_plain_book(), twelve_book(), build, "fall")])
        self.assertEqual(player.asks(), [step for step, _, _ in again.moves(twelve_book(), player.now())])


class CarryTest(PlayerTestCase):
    def test_from_now_on(self):
        player = played("a", "b", "c", "d")
        self.assertIsNone(player.carry_by("keep"))
        self.assertEqual(player.carry, "keep")
        self.assertRaises(NoBuild, player.move_to, less())
        player.carry_by(carry="fall")
        self.assertEqual(player.move_to(less()), ["a", "b"])

    def test_it_is_nothing_that_is_undone(self):
        player = Player(tree())
        player.carry_by("keep")
        self.assertEqual(len(player), 0)
        self.raises(player, NothingBack, "many", 0, player.undo)
        player.take("a")
        player.carry_by("fall")
        player.undo()
        self.assertEqual(told(player), told(Player(tree(), carry="fall")))

    def test_undo_leaves_it_over_many_deeds(self):
        player = played("a")
        player.carry_by("fall")
        player.move_to(less())
        player.carry_by("keep")
        player.raise_to(5)
        for _ in range(3):
            player.undo()
            self.assertEqual(player.carry, "keep")
        self.assertEqual(told(player), told(Player(tree(), carry="keep")))


class UndoTest(PlayerTestCase):
    def deeds(self):
        return [lambda player: player.take("d"), lambda player: player.take("a"), lambda player: player.take("b"),
                lambda player: player.give("b"), lambda player: player.raise_to(8), lambda player: player.take("e"),
                lambda player: player.raise_to(8), lambda player: player.move_to(less()),
                lambda player: player.give("d"), lambda player: player.move_to(tree()),
                lambda player: player.restart(), lambda player: player.take("c")]

    def test_each_kind_of_deed(self):
        player, rows = Player(tree(), carry="fall"), []
        for deed in self.deeds():
            rows.append(told(player))
            deed(player)
            self.assertEqual(len(player), len(rows))
        while rows:
            self.assertIsNone(player.undo())
            self.assertEqual(told(player), rows.pop())
        self.raises(player, NothingBack, "many", 0, player.undo)

    def test_undone_and_on_again(self):
        player = Player(tree(), carry="fall")
        for deed in self.deeds():
            ahead = told(player)
            deed(player)
            behind = told(player)
            player.undo()
            self.assertEqual(told(player), ahead)
            deed(player)
            self.assertEqual(told(player), behind)

    def test_nothing_to_undo(self):
        for player in (Player(tree()), played("a")):
            while len(player):
                player.undo()
            with self.assertRaises(NothingBack) as caught:
                player.undo()
            self.assertEqual((caught.exception.many, type(caught.exception.many)), (0, int))

    def test_what_failed_is_not_undone(self):
        player = played("a")
        self.assertRaises(NoStep, player.take, "a")
        self.assertRaises(NoNumber, player.raise_to, 1)
        self.assertRaises(NoBook, player.move_to, None)
        player.undo()
        self.assertEqual(told(player), told(Player(tree())))


class TwinTest(PlayerTestCase):
    def test_tells_the_same_and_goes_on_by_itself(self):
        player = played("a", "b", carry="fall")
        player.give("b")
        player.raise_to(7)
        twin = player.twin()
        self.assertIs(type(twin), Player)
        self.assertIsNot(twin, player)
        self.assertEqual(told(twin), told(player))
        ahead = told(player)
        twin.take("d")
        twin.carry_by("keep")
        twin.move_to(tree())
        self.assertEqual(told(player), ahead)
        later = told(twin)
        player.undo()
        player.restart()
        self.assertEqual(told(twin), later)

    def test_it_undoes_what_was_done_ahead(self):
        player = played("a", "b", "e")
        twin = player.twin()
        for rest in (("a", "b"), ("a",), ()):
            twin.undo()
            self.assertEqual(twin.now(), rest)
        self.assertRaises(NothingBack, twin.undo)
        self.assertEqual(player.now(), ("a", "b", "e"))


class TrialTest(PlayerTestCase):
    def do_much(self, player):
        player.take("b")
        player.raise_to(9)
        player.carry_by("fall")
        player.move_to(less())
        player.undo()
        player.restart()

    def test_gives_the_player_itself(self):
        player = played("a")
        with player.trial() as given:
            self.assertIs(given, player)

    def test_without_keep(self):
        player = played("a")
        ahead = told(player)
        with player.trial():
            self.do_much(player)
            self.assertNotEqual(told(player), ahead)
        self.assertEqual(told(player), ahead)
        player.undo()
        self.assertEqual(told(player), told(Player(tree())))

    def test_a_carry_that_was_set_within(self):
        for kept in (False, True):
            player = played("a")
            trial = player.trial()
            with trial:
                player.carry_by("keep")
                if kept:
                    self.assertIsNone(trial.keep())
            self.assertEqual(player.carry, "keep" if kept else "grown")

    def test_with_keep(self):
        player, other = played("a"), played("a")
        trial = player.trial()
        with trial:
            self.do_much(player)
            trial.keep()
        self.do_much(other)
        self.assertEqual(told(player), told(other))
        player.undo()
        self.assertEqual(player.now(), ("a", "b"))

    def test_what_was_undone_within_is_back(self):
        player = played("a", "b")
        with player.trial():
            player.undo()
            player.undo()
        self.assertEqual((player.now(), len(player)), (("a", "b"), 2))

    def test_an_exception_passes_on(self):
        for kept in (False, True):
            for error in (Left("x"), NoStep(1), KeyboardInterrupt(), StopIteration(), GeneratorExit()):
                player = played("a")
                ahead = told(player)
                trial = player.trial()
                with self.assertRaises(type(error)) as caught:
                    with trial:
                        self.do_much(player)
                        if kept:
                            trial.keep()
                        raise error
                self.assertIs(caught.exception, error)
                self.assertEqual(told(player), ahead)

    def test_within_another_trial(self):
        for outer_kept in (False, True):
            for inner_kept in (False, True):
                player = played("a")
                outer = player.trial()
                with outer:
                    player.take("b")
                    inner = player.trial()
                    with inner:
                        player.take("c")
                        player.carry_by("keep")
                        if inner_kept:
                            inner.keep()
                    rest = ("a", "b", "c") if inner_kept else ("a", "b")
                    self.assertEqual((player.now(), player.carry), (rest, "keep" if inner_kept else "grown"))
                    if outer_kept:
                        outer.keep()
                self.assertEqual(player.now(), rest if outer_kept else ("a",))
                self.assertEqual(player.carry, "keep" if outer_kept and inner_kept else "grown")


class TryingTest(PlayerTestCase):
    def guest(self, player):
        player.take("b")
        player.carry_by("fall")
        return [player, player.now()]

    def test_what_the_guest_returns(self):
        player = played("a")
        given, build = player.trying(self.guest)
        self.assertIs(given, player)
        self.assertEqual(build, ("a", "b"))
        for mark in (None, object(), (), [1], False):
            self.assertIs(player.trying(lambda given: mark), mark)
            self.assertIs(player.trying(lambda given: mark, kept=True), mark)

    def test_kept(self):
        player = played("a")
        player.trying(guest=self.guest, kept=True)
        self.assertEqual((player.now(), player.carry, len(player)), (("a", "b"), "fall", 2))

    def test_not_kept(self):
        for value in odd_values() + [0, 1, "True", "", [True], (), 2]:
            if value is not True:
                player = played("a")
                ahead = told(player)
                player.trying(self.guest, kept=value)
                self.assertEqual(told(player), ahead)
        player = played("a")
        player.trying(self.guest)
        self.assertEqual(told(player), told(played("a")))

    def test_an_exception_passes_on(self):
        error = Left("x")

        def guest(player):
            self.guest(player)
            raise error

        for kept in (False, True):
            player = played("a")
            with self.assertRaises(Left) as caught:
                player.trying(guest, kept=kept)
            self.assertIs(caught.exception, error)
            self.assertEqual(told(player), told(played("a")))

    def test_within_another(self):
        player = played("a")
        player.trying(lambda outer: outer.trying(self.guest, kept=True))
        self.assertEqual(told(player), told(played("a")))
        player.trying(lambda outer: outer.trying(self.guest, kept=True), kept=True)
        self.assertEqual((player.now(), player.carry), (("a", "b"), "fall"))

    def test_kept_is_told_by_name_alone(self):
        player = played("a")
        with self.assertRaises(TypeError):
            player.trying(self.guest, True)
        self.assertEqual(told(player), told(played("a")))


class Model:
    """A player once more, read straight off the document's words."""

    def __init__(self, book, carry):
        self.book, self.carry, self.build, self.cost, self.history = book, carry, (), 0, []

    def told(self):
        asks = [step for step, _, _ in again.moves(self.book, self.build)]
        return [self.book.points, self.carry, self.build, self.cost, asks, len(self.history)]

    def done(self, **parts):
        self.history.append((self.book, self.build, self.cost))
        for name, value in parts.items():
            setattr(self, name, value)

    def step(self, step):
        for told_step, price, behind in again.moves(self.book, self.build):
            if told_step == step:
                self.done(build=behind, cost=self.cost + price)
                return None
        return NoStep

    def raise_to(self, points):
        if not self.book.points <= points <= 12:
            return NoNumber
        return self.done(book=self.book.changed(points=points))

    def move_to(self, book):
        kept = again.carried(self.book, book, self.build, self.carry)
        if not again.holds(book, kept):
            return NoBuild
        gone = [skill for skill in self.build if skill not in kept]
        self.done(book=book, build=kept)
        return gone

    def undo(self):
        if not self.history:
            return NothingBack
        self.book, self.build, self.cost = self.history.pop()
        return None


class ManyDeedsTest(unittest.TestCase):
    def one_deed(self, dice, books, player, model):
        """What the player and the model tell of a like deed: what is returned, or the class of the error."""
        skill, points, book = dice.choice(NAMES[:6]), dice.randint(0, 13), dice.choice(books)
        deeds = [
            (lambda: player.take(skill), lambda: model.step(("take", skill))),
            (lambda: player.take(skill), lambda: model.step(("take", skill))),
            (lambda: player.give(skill), lambda: model.step(("give", skill))),
            (player.restart, lambda: model.step(("reset",))),
            (lambda: player.raise_to(points), lambda: model.raise_to(points)),
            (lambda: player.move_to(book), lambda: model.move_to(book)),
            (player.undo, model.undo),
        ]
        deed, of_model = dice.choice(deeds)
        try:
            return deed(), of_model()
        except ValueError as error:
            return type(error), of_model()

    def test_against_the_document(self):
        errors = {}
        for seed in range(120):
            dice = random.Random(seed)
            books = [book for pair in random_pairs(seed + 3)[-3:] for book in pair]
            carry = dice.choice(KINDS)
            player, model = Player(books[0], carry=carry), Model(books[0], carry)
            for _ in range(40):
                if dice.random() < 0.1:
                    model.carry = dice.choice(KINDS)
                    player.carry_by(model.carry)
                ahead = told(player)
                of_player, of_model = self.one_deed(dice, books, player, model)
                self.assertEqual(of_player, of_model)
                self.assertEqual(told(player), model.told())
                if isinstance(of_player, type):
                    self.assertEqual(told(player), ahead)
                    errors[of_player] = errors.get(of_player, 0) + 1
        self.assertEqual(len(errors), 4)

    def test_undone_a_player_is_as_it_was(self):
        for seed, book in enumerate(random_books(40)):
            dice = random.Random(seed)
            player, rows = Player(book), []
            books = [book, renamed(book, dict(zip(book.names(), reversed(book.names()))))]
            for _ in range(25):
                ahead = told_without_carry(player)
                player.carry_by(dice.choice(KINDS))
                try:
                    dice.choice([lambda: player.take(dice.choice(book.names())), player.restart,
                                 lambda: player.give(dice.choice(book.names())),
                                 lambda: player.move_to(dice.choice(books)), lambda: player.raise_to(player.points)])()
                except ValueError:
                    continue
                rows.append(ahead)
            while rows:
                player.undo()
                self.assertEqual(told_without_carry(player), rows.pop())


if __name__ == "__main__":
    unittest.main()
