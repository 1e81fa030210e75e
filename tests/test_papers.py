"""[9] and what the interface's heading "Stage 8" says of refundtrees/papers.py: papers, and their checker."""

import copy
import random
import unittest

from refundtrees.books import Book
from refundtrees.builds import Build
from refundtrees.errors import NoBuild, NoWay
from refundtrees.notes import write_book
from refundtrees.papers import accepts, never_paper, paper_of, way_paper
from refundtrees.prices import least_price
import tests_again as again
from tests_kit import (
    all_builds, flat, full_book, knot_book, no_builds, no_steps, odd_values, random_book, random_books, trap_book,
    twelve_book, values_but_numbers, values_but_rows,
)

ODD = odd_values() + ["", "way", "a", 0, 1, [], (), ("a",), ["a"], [()], ((),), [[]]]


def way_sample():
    """A paper of a way in a small book, with resets."""
    return way_paper(Book(flat(2), 2, prices=[("a", 3)], reset=2), ("a",), ("b",))


def never_sample():
    return never_paper(trap_book(3), (), ("a", "b"))


def changed(paper, place, value):
    return paper[:place] + (value,) + paper[place + 1:]


class MadeTest(unittest.TestCase):
    def right(self, table, book, paper, one, other):
        self.assertIs(accepts(paper), True)
        self.assertIs(again.is_right(table, paper), True)
        self.assertEqual(paper[1:4], (write_book(book), one, other))
        self.assertIs(type(paper), tuple)
        self.assertTrue(all(type(part) is list for part in paper[4:]))

    def test_for_each_two_builds_one_is_made_and_accepted(self):
        seen = [0, 0]
        for book in random_books(50):
            table = again.all_moves(book)
            for other in table:
                least = again.least_to(table, other)
                for one in table:
                    paper = paper_of(book, one, other)
                    self.right(table, book, paper, one, other)
                    seen[one in least] += 1
                    if one in least:
                        self.assertEqual((paper[0], len(paper)), ("way", 6))
                        self.assertEqual(again.played(table, one, paper[4]), (least[one], other))
                        self.assertEqual(way_paper(book, one, other), paper)
                        self.no_way(never_paper, book, one, other, 0)
                    else:
                        self.assertEqual((paper[0], len(paper)), ("never", 5))
                        self.assertEqual(never_paper(book, one, other), paper)
                        self.no_way(way_paper, book, one, other, None)
        self.assertGreater(min(seen), 50)

    def no_way(self, call, book, one, other, index):
        with self.assertRaises(NoWay) as caught:
            call(book, one, other)
        self.assertEqual(caught.exception.index, index)
        self.assertIs(type(caught.exception.index), type(index))

    def test_a_build_from_which_a_reset_leads_where_no_way_leads_back(self):
        book = Book(flat(3), 3, wants=[("all", "a", ("b",)), ("all", "b", ("a",))], reset=3)
        paper = paper_of(book, ("a", "b", "c"), ("a", "b"))
        self.assertEqual(paper[4], [("give", "c")])
        self.right(again.all_moves(book), book, paper, ("a", "b", "c"), ("a", "b"))
        self.assertIn((), dict(paper[5]))

    def test_from_a_build_to_itself(self):
        for book, build in ((trap_book(), ("a", "b")), (knot_book(), ("a", "b")), (full_book(), ())):
            paper = way_paper(book, build, build)
            self.assertEqual(paper[4], [])
            self.right(again.all_moves(book), book, paper, build, build)
            self.no_way(never_paper, book, build, build, 0)

    def test_books_of_twelve(self):
        for book in (twelve_book(), twelve_book().changed(reset=None), Book(flat(12), 12, reset=5)):
            table = again.all_moves(book)
            builds = list(table)
            for one in (builds[0], builds[len(builds) // 2], builds[-1]):
                self.right(table, book, paper_of(book, one, builds[5]), one, builds[5])

    def test_what_is_told_is_changed_behind(self):
        kept = way_sample()
        way_sample()[4].clear()
        way_sample()[5].clear()
        self.assertEqual(way_sample(), kept)
        never_sample()[4].clear()
        self.assertIs(accepts(never_sample()), True)

    def test_no_build_ahead_of_no_way(self):
        book = full_book()
        bad = no_builds("abcd") + [build for build in all_builds("abcd") if not again.holds(book, build)]
        for value in bad:
            for one, other in ((value, ()), ((), value), (value, value), (value, None)):
                for call in (way_paper, never_paper, paper_of):
                    with self.assertRaises(NoBuild) as caught:
                        call(book, one, other)
                    self.assertIs(caught.exception.build, value)


class WrittenByHandTest(unittest.TestCase):
    NOTE = "points 2\nskill a 1\nskill b 1\nprice a 3\nreset 2\n"

    def way(self, way, numbers, one=("a",), other=("b",)):
        return accepts(("way", self.NOTE, one, other, way, numbers))

    def test_a_way(self):
        numbers = [((), 0), (("a",), 2), (("b",), 0), (("a", "b"), 2)]
        reset = [("reset",), ("take", "b")]
        self.assertIs(self.way(reset, numbers), True)
        self.assertIs(self.way(reset, numbers[::-1]), True)
        self.assertIs(self.way([("take", "b"), ("reset",), ("take", "b")], numbers), True)
        self.assertIs(self.way([("take", "b"), ("give", "a")], numbers), False)
        self.assertIs(self.way([("take", "b"), ("give", "a")], [((), 0), (("a",), 3), (("b",), 0), (("a", "b"), 3)]), False)

    def test_other_numbers_than_the_least(self):
        reset = [("reset",), ("take", "b")]
        for empty, both, right in ((0, 2, True), (-1, 2, False), (0, 3, False), (0, 1, False), (1, 2, False)):
            self.assertIs(self.way(reset, [((), empty), (("a",), 2), (("b",), 0), (("a", "b"), both)]), right)

    def test_numbers_below_none(self):
        for empty, a, both, right in ((-1, -1, 0, True), (-1, 0, 0, True), (-2, -1, 0, False), (-1, -2, 0, False),
                                      (-1, -1, -1, False), (-10**40, -10**40, 0, False), (0, 0, 0, True)):
            numbers = [((), empty), (("a",), a), (("b",), 0), (("a", "b"), both)]
            self.assertIs(self.way([], numbers, ("b",), ("b",)), right)
            book = Book(flat(2), 2, prices=[("a", 3)], reset=2)
            paper = ("way", write_book(book), ("b",), ("b",), [], numbers)
            self.assertIs(again.is_right(again.all_moves(book), paper), right)

    def test_numbers_below_none_where_no_way_leads_back(self):
        book = trap_book(4)
        numbers = [(("a", "b"), 0), ((), -4), (("c",), -5)]
        for bent, right in ((numbers, False), ([(("a", "b"), 0), ((), -4), (("c",), -4)], True),
                            ([(("a", "b"), 0), ((), -5), (("c",), -5)], False)):
            paper = ("way", write_book(book), ("a", "b"), ("a", "b"), [], bent)
            self.assertIs(accepts(paper), right)
            self.assertIs(again.is_right(again.all_moves(book), paper), right)

    def test_a_closed_set(self):
        note = write_book(trap_book())
        self.assertIs(accepts(("never", note, (), ("a", "b"), [(), ("c",)])), True)
        self.assertIs(accepts(("never", note, (), ("a", "b"), [("c",), (), ("c",), ()])), True)
        self.assertIs(accepts(("never", note, ("a", "b"), ("c",), [("a", "b")])), True)
        self.assertIs(accepts(("never", note, (), ("a", "b"), [()])), False)
        self.assertIs(accepts(("never", note, (), ("a", "b"), [("c",)])), False)
        self.assertIs(accepts(("never", note, (), ("a", "b"), [(), ("c",), ("a", "b")])), False)
        self.assertIs(accepts(("never", note, (), ("a", "b"), [])), False)
        reset = write_book(trap_book(0))
        self.assertIs(accepts(("never", reset, ("a", "b"), ("c",), [("a", "b")])), False)
        self.assertIs(accepts(("never", reset, ("a", "b"), ("c",), [("a", "b"), ()])), False)

    def test_a_way_that_is_not_a_cheapest_one(self):
        for book in random_books(40):
            table = again.all_moves(book)
            for other in list(table)[:6]:
                least = again.least_to(table, other)
                for one in list(table)[:6]:
                    for step, price, behind in table[one]:
                        if one in least and price + least.get(behind, 1000) > least[one]:
                            self.dearer(book, table, one, other, step, behind)

    def dearer(self, book, table, one, other, step, behind):
        paper = way_paper(book, one, other)
        if least_price(book, behind, other) is not None:
            way = [step] + way_paper(book, behind, other)[4]
            price = again.played(table, one, way)[0]
            self.assertIs(accepts(changed(paper, 4, way)), False)
            numbers = [(build, price if build == one else number) for build, number in paper[5]]
            self.assertIs(accepts(changed(changed(paper, 4, way), 5, numbers)), False)


class BentTest(unittest.TestCase):
    def refused(self, paper):
        self.assertIs(accepts(paper), False)

    def test_the_samples(self):
        self.assertIs(accepts(way_sample()), True)
        self.assertIs(accepts(never_sample()), True)
        self.assertIs(accepts(paper=way_sample()), True)

    def test_any_value(self):
        for value in ODD + no_builds("ab") + no_steps() + [Build(full_book()), full_book(), "never", ("way",), ("never",)]:
            self.refused(value)
            self.refused([value])
            self.refused((value,) * 5)
            self.refused((value,) * 6)
            self.refused(("way", value))
            self.refused(("never", value, (), (), []))

    def test_another_kind(self):
        for paper in (way_sample(), never_sample()):
            for value in ODD + ["Way", "ways", "never ", b"way"]:
                if value is not paper[0] and not (isinstance(value, str) and value == paper[0]):
                    self.refused(changed(paper, 0, value))
            self.refused(changed(paper, 0, "never" if paper[0] == "way" else "way"))

    def test_a_list_in_the_place_of_the_paper(self):
        for paper in (way_sample(), never_sample()):
            self.refused(list(paper))
            for many in range(len(paper)):
                self.refused(paper[:many])
                self.refused(paper[many + 1:])
            self.refused(paper + ([],))
            self.refused(paper + paper[-1:])
        self.refused(way_sample()[:5])
        self.refused(never_sample() + ([],))

    def test_another_note(self):
        for paper in (way_sample(), never_sample()):
            for value in ODD + [paper[1][:-1], paper[1] + "\n", paper[1].replace(" ", "  ", 1), paper[1].upper(),
                                paper[1].encode(), paper[1] + "reset 3\n", "points 13" + paper[1][8:],
                                paper[1].replace("skill b", "skill x")]:
                self.refused(changed(paper, 1, value))

    def test_the_note_of_another_book(self):
        book = Book(flat(2), 2, prices=[("a", 3)], reset=2)
        for parts in ({"reset": None}, {"reset": 1}, {"points": 1}, {"skills": flat(3)}, {"bars": [("a", "b")]}):
            self.refused(changed(way_sample(), 1, write_book(book.changed(**parts))))
        self.assertIs(accepts(changed(way_sample(), 1, write_book(book.changed(prices=[("a", 3), ("b", 1)])))), True)

    def test_other_builds(self):
        for paper in (way_sample(), never_sample()):
            for place in (2, 3):
                for value in no_builds("ab") + [list(paper[place]), ("a", "b", "x"), ("c", "a"), None]:
                    self.refused(changed(paper, place, value))
        self.refused(changed(way_sample(), 2, ()))
        self.refused(changed(way_sample(), 3, ()))
        self.refused(changed(never_sample(), 3, ()))
        self.refused(changed(never_sample(), 2, ("a", "b")))
        self.refused(changed(never_sample(), 2, ("a",)))
        self.refused(changed(never_sample(), 3, ("a", "c")))
        self.assertIs(accepts(changed(never_sample(), 2, ("c",))), True)

    def test_other_ways(self):
        paper = way_sample()
        for value in values_but_rows() + [tuple(paper[4]), [], (), [paper[4]], paper[4] * 2, paper[4][:1], paper[4][1:]]:
            self.refused(changed(paper, 4, value))
        for place in range(len(paper[4])):
            for step in no_steps() + [list(paper[4][place]), ("give", "a"), ("give", "b")]:
                self.refused(changed(paper, 4, paper[4][:place] + [step] + paper[4][place + 1:]))

    def test_other_lists_of_numbers(self):
        paper = way_sample()
        rows = paper[5]
        for value in values_but_rows() + [tuple(rows), [], (), dict(rows), [rows], rows + [None], rows + [()]]:
            self.refused(changed(paper, 5, value))
        for place, (build, number) in enumerate(rows):
            ahead, behind = rows[:place], rows[place + 1:]
            self.refused(changed(paper, 5, ahead + behind))
            self.refused(changed(paper, 5, rows + [rows[place]]))
            self.refused(changed(paper, 5, rows + [(build, number + 1)]))
            wrong = [[build, number], (build,), (build, number, number), (number, build), (list(build), number), build]
            wrong += [(value, number) for value in no_builds("ab")] + [(build, value) for value in values_but_numbers()]
            for row in wrong + odd_values():
                self.refused(changed(paper, 5, ahead + [row] + behind))

    def test_truths_in_the_place_of_numbers(self):
        book = Book(flat(2), 2, reset=1)
        paper = way_paper(book, ("a",), ())
        self.assertEqual({number for _, number in paper[5]}, {0, 1})
        self.assertIs(accepts(paper), True)
        for place, (build, number) in enumerate(paper[5]):
            rows = paper[5][:place] + [(build, bool(number))] + paper[5][place + 1:]
            self.refused(changed(paper, 5, rows))

    def test_other_closed_sets(self):
        paper = never_sample()
        for value in values_but_rows() + [tuple(paper[4]), [], (), [paper[4]], set(paper[4]), paper[4] + [("a", "b")]]:
            self.refused(changed(paper, 4, value))
        for place in range(len(paper[4])):
            self.refused(changed(paper, 4, paper[4][:place] + paper[4][place + 1:]))
            self.assertIs(accepts(changed(paper, 4, paper[4] + [paper[4][place]])), True)
            for value in no_builds("ab") + [list(paper[4][place]), ("a",), ("a", "c")]:
                self.refused(changed(paper, 4, paper[4][:place] + [value] + paper[4][place + 1:]))
                self.refused(changed(paper, 4, paper[4] + [value]))

    def test_nothing_is_changed(self):
        for paper in (way_sample(), never_sample()):
            kept = copy.deepcopy(paper)
            accepts(paper)
            self.assertEqual(paper, kept)

    def test_what_is_accepted_is_true_whoever_wrote_it(self):
        seen = [0, 0]
        for seed in range(60):
            book, dice = random_book(seed), random.Random(seed)
            table = again.all_moves(book)
            builds = list(table)
            for _ in range(40):
                paper = paper_of(book, dice.choice(builds), dice.choice(builds))
                for _ in range(dice.randint(1, 2)):
                    paper = self.bent(dice, table, paper)
                answer = accepts(paper)
                seen[answer] += 1
                self.assertIs(answer, again.is_right(table, paper))
                if answer:
                    self.true(table, paper)
        self.assertGreater(min(seen), 100)

    def bent(self, dice, table, paper):
        """A paper changed at one place, all of its parts still of the right kinds."""
        builds = list(table)
        place = dice.randint(2, len(paper) - 1)
        if place < 4:
            return changed(paper, place, dice.choice(builds))
        rows = list(paper[place])
        at = dice.randint(0, len(rows))
        if paper[0] == "way" and place == 4:
            fresh = dice.choice([row[0] for build in builds for row in table[build]] or [("take", "a")])
        elif place == 5:
            old = rows[at] if at < len(rows) else (dice.choice(builds), 0)
            fresh = (old[0], old[1] + dice.choice([-1, 1, 0]))
        else:
            fresh = dice.choice(builds)
        return changed(paper, place, rows[:at] + [fresh][: dice.randint(0, 2)] + rows[at + dice.randint(0, 1):])

    def true(self, table, paper):
        kind, _, one, other = paper[:4]
        least = again.least_to(table, other)
        if kind == "never":
            self.assertNotIn(one, least)
        else:
            self.assertEqual(again.played(table, one, paper[4]), (least[one], other))


class NamesTest(unittest.TestCase):
    def test_arguments_by_name(self):
        book = trap_book(2)
        self.assertEqual(way_paper(book=book, one=("a", "b"), other=()), way_paper(book, ("a", "b"), ()))
        self.assertEqual(never_paper(book=book, one=(), other=("a", "b")), never_paper(book, (), ("a", "b")))
        self.assertEqual(paper_of(book=book, one=(), other=("a", "b")), never_paper(book, (), ("a", "b")))
        self.assertIs(accepts(paper=paper_of(book=book, one=("a", "b"), other=("c",))), True)


if __name__ == "__main__":
    unittest.main()
