"""The examples of the document, each beginning anew."""

import doctest
import unittest

EXAMPLES = [
    """
    >>> from refundtrees.books import Book
    >>> from refundtrees.prices import is_tight, plain_price
    >>> book = Book([("a", 1), ("b", 1), ("c", 1), ("d", 1), ("e", 2), ("f", 2)], 3, needs=[(2, 2)])
    >>> one, other = ("a", "b", "e"), ("a", "c", "e")
    >>> (plain_price(book, one, other), is_tight(book, one, other), plain_price(book.changed(points=4), one, other))
    (2, True, 1)
    """,
    """
    >>> from refundtrees.books import Book
    >>> from refundtrees.prices import least_price
    >>> from refundtrees.sparing import spare_way
    >>> book = Book([("a", 1), ("b", 1), ("c", 1), ("d", 1), ("e", 2), ("f", 2)], 5, needs=[(2, 2)],
    ...             prices=[("e", 5)], reset=4)
    >>> (spare_way(book, ("a", "b", "c", "e"), ("a", "b")), least_price(book, ("a", "b", "e"), ("a", "c")))
    ([('give', 'e'), ('give', 'c')], 4)
    """,
    """
    >>> from refundtrees.books import Book
    >>> from refundtrees.reach import closed_without, fewest_points, knots
    >>> book = Book([("a", 1), ("b", 1), ("c", 1)], 3, wants=[("any", "a", ("b", "c")), ("any", "b", ("a", "c"))])
    >>> (knots(book), fewest_points(book, ("a", "b")), closed_without(book, ("a", "b"), 2))
    ([('a', 'b')], 3, [(), ('c',), ('a', 'c'), ('b', 'c')])
    """,
    """
    >>> from refundtrees.books import Book
    >>> from refundtrees.carrying import carried, is_trap
    >>> old = Book([("a", 1), ("b", 1), ("c", 1)], 3, wants=[("any", "a", ("b", "c")), ("any", "b", ("a", "c"))])
    >>> new = Book([("a", 1), ("b", 1)], 3, wants=[("any", "a", ("b",)), ("any", "b", ("a",))])
    >>> (carried(old, new, ("a", "b"), "fall"), is_trap(new, ("a", "b")), carried(old, new, ("a", "b"), "grown"))
    (('a', 'b'), True, ())
    """,
    """
    >>> from refundtrees.told import greatest_wants, must
    >>> seen = [(("a", "b"), "x", True), (("a", "c"), "x", True), (("b", "c"), "x", False)]
    >>> (must(["a", "b", "c", "x"], seen, "x"), greatest_wants(["a", "b", "c", "x"], seen)["x"])
    (['a'], ('a',))
    """,
]


class ExamplesTest(unittest.TestCase):
    def test_the_examples(self):
        for place, text in enumerate(EXAMPLES):
            example = doctest.DocTestParser().get_doctest(text, {}, f"example {place}", None, None)
            told = []
            result = doctest.DocTestRunner(verbose=False).run(example, out=told.append)
            self.assertEqual(result.failed, 0, "".join(told))
            self.assertGreater(result.attempted, 2)


if __name__ == "__main__":
    unittest.main()
