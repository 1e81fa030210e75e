"""What several tests use: values of every kind, and books to try things with."""

import itertools
import random

from refundtrees.books import Book


class Everything:
    """Says that it is equal to anything, so that comparing alone is no check."""

    def __eq__(self, other):
        return True

    def __hash__(self):
        return 0


class Nothing:
    """Cannot be compared, so that comparing at all is seen."""

    def __eq__(self, other):
        raise AssertionError("compared")

    def __hash__(self):
        raise AssertionError("hashed")


def odd_values():
    """Values that are neither a number, a word, a list nor a tuple."""
    return [
        None, True, False, 1.0, 2.5, 1j, b"a", bytearray(b"a"), {}, {"a": 1}, set(), {"a"}, frozenset(["a"]),
        range(2), iter([]), object(), Everything(), Nothing(), len, int, ValueError("a"),
    ]


def values_but_numbers():
    return odd_values() + ["", "1", "a", [], [1], (), (1,)]


def values_but_words():
    return odd_values() + ["", "A", "1", "ab1", "abcdefghi", [], ["a"], (), ("a",), 0, 1]


def values_but_rows():
    return odd_values() + ["", "a", "ab", 0, 1, 12]


NAMES = list("abcdefghijkl")


def flat(many, tier=1):
    """The first so many skills, all of one tier."""
    return [(name, tier) for name in NAMES[:many]]


FULL = {
    "skills": [("a", 1), ("b", 1), ("c", 2), ("d", 3)],
    "points": 5,
    "needs": [(2, 1), (4, 3)],
    "wants": [("all", "c", ("a", "b")), ("any", "d", ("c", "a")), ("count", "d", ("a", "b", "c"), 2)],
    "bars": [("b", "a"), ("c", "d")],
    "gives": [("d", 3), ("a", 1)],
    "prices": [("c", 0), ("a", 99)],
    "reset": 7,
}


def full_book():
    return Book(**FULL)


def all_builds(names):
    """Every tuple of unlike names in their order."""
    return [build for size in range(len(names) + 1) for build in itertools.combinations(names, size)]


def random_book(seed):
    """A book of two to five skills with some of everything; the same one for the same seed."""
    dice = random.Random(seed)
    names = NAMES[: dice.randint(2, 5)]
    tiers = sorted(dice.randint(1, 4) for _ in names)
    wants = []
    for _ in range(dice.randint(0, 3)):
        skill = dice.choice(names)
        others = [name for name in names if name != skill]
        picked = tuple(dice.sample(others, dice.randint(1, len(others))))
        kind = dice.choice(["all", "any", "count"])
        many = (dice.randint(1, len(picked)),) if kind == "count" else ()
        wants.append((kind, skill, picked, *many))
    pairs = list(itertools.combinations(names, 2))
    return Book(
        list(zip(names, tiers)),
        dice.randint(0, 5),
        needs=[(tier, dice.randint(0, 2)) for tier in (2, 3, 4) if dice.random() < 0.7],
        wants=wants,
        bars=dice.sample(pairs, dice.randint(0, 1)),
        gives=[(name, dice.randint(1, 3)) for name in names if dice.random() < 0.2],
        prices=[(name, dice.randint(0, 9)) for name in names if dice.random() < 0.5],
        reset=dice.choice([None, 0, 3]),
    )


def random_plain_book(seed):
    """A plain book of two to five skills; the same one for the same seed."""
    dice = random.Random(seed)
    names = NAMES[: dice.randint(2, 5)]
    tiers = sorted(dice.randint(1, 3) for _ in names)
    wants = []
    for _ in range(dice.randint(0, 3)):
        at = dice.randint(1, len(names) - 1)
        wants.append(("all", names[at], tuple(dice.sample(names[:at], dice.randint(1, min(2, at))))))
    return Book(
        list(zip(names, tiers)),
        dice.randint(0, len(names)),
        needs=[(tier, dice.randint(0, 2)) for tier in (2, 3) if dice.random() < 0.7],
        wants=wants,
        prices=[(name, dice.randint(0, 9)) for name in names if dice.random() < 0.7],
        reset=dice.choice([None, 0, 3, 9]),
    )


def random_books(many):
    """As many books of every sort as told, and half as many plain ones."""
    return [random_book(seed) for seed in range(many)] + [random_plain_book(seed) for seed in range(many // 2)]


def renamed(book, names):
    """A book with other names, told as a dict from the old ones, and its skills of each tier the other way about."""
    def pick(skills):
        return tuple(names[skill] for skill in skills)

    return Book(
        sorted(((names[name], tier) for name, tier in reversed(book.skills())), key=lambda row: row[1]),
        book.points,
        needs=book.needs(),
        wants=[(want[0], names[want[1]], pick(want[2]), *want[3:]) for want in book.wants()],
        bars=[pick(bar) for bar in book.bars()],
        gives=[(names[skill], points) for skill, points in book.gives()],
        prices=[(names[skill], price) for skill, price in book.prices()],
        reset=book.reset,
    )


def random_pairs(many):
    """As many pairs of books, of which the second one has some of the skills of the first, and others."""
    pairs = []
    for seed in range(many):
        new = random_book(seed + 5000)
        names = random.Random(seed).sample(NAMES[:6], len(new))
        pairs.append((random_book(seed + 9000), renamed(new, dict(zip(new.names(), names)))))
    return pairs


def knot_book():
    """The book of the document in which ("a", "b") can be come to, and not by takes alone."""
    return Book(flat(3), 3, wants=[("any", "a", ("b", "c")), ("any", "b", ("a", "c"))])


def trap_book(reset=None):
    """A book in which no way without a reset leads from ("a", "b") to anywhere, or from anywhere to it."""
    return Book(flat(3), 3, wants=[("all", "a", ("b",)), ("all", "b", ("a",))], bars=[("a", "c")], reset=reset)


def twelve_book():
    """A book of twelve skills with some of everything."""
    return Book(
        [(name, 1 + place // 3) for place, name in enumerate(NAMES)],
        8,
        needs=[(2, 2), (3, 4), (4, 6)],
        wants=[("all", "d", ("a",)), ("any", "e", ("b", "c")), ("count", "f", ("a", "b", "c"), 2),
               ("all", "g", ("d",)), ("any", "h", ("d", "e", "l")), ("all", "l", ("a", "b"))],
        bars=[("a", "k"), ("b", "j")],
        gives=[("c", 2), ("f", 1)],
        prices=[("a", 4), ("d", 0), ("e", 7), ("l", 99)],
        reset=9,
    )


def twelve_plain_book():
    """A plain book of twelve skills."""
    return Book(
        [(name, 1 + place // 4) for place, name in enumerate(NAMES)],
        7,
        needs=[(2, 2), (3, 4)],
        wants=[("all", "d", ("a", "b")), ("all", "f", ("e",)), ("all", "i", ("e", "a"))],
        prices=[("a", 4), ("d", 0), ("e", 7), ("l", 99)],
        reset=9,
    )


def no_builds(names):
    """Values that are no builds of a book of some skills, at least two."""
    first, second = names[:2]
    return odd_values() + [
        "", first, 0, 1, [], [first], list(names), (second, first), (first, first), (first, second, first), ("x",),
        (first, "x"), ("",), (first.upper(),), (None,), (True,), (0,), ([first],), ((first,),), (first, [second]),
        {first: 1}, (first,) * 100, (first + second,), (b"a",), (Everything(),), (first, Nothing()), ((),),
    ]


def no_steps():
    """Values that are no step in any book."""
    return odd_values() + [
        "", "take", "reset", "a", 0, 1, [], (), ["take", "a"], ["give", "b"], ["reset"], ("take",), ("give",),
        ("take", "a", "b"), ("give", "b", 1), ("take", "a", None), ("reset", "a"), ("reset", None), ("reset", ""),
        ("take", "x"), ("give", "x"), ("take", ""), ("take", "A"), ("take", None), ("take", 0), ("take", True),
        ("take", ("a",)), ("take", ["a"]), ("Take", "a"), ("a", "take"), ("", "a"), (None, "a"), (0, "a"), (None,),
        (("take", "a"),), [("take", "a")], (Everything(),), ("take", Everything()), (Everything(), "a"),
        (Everything(), Everything()), ("take", Nothing()), (Nothing(), "a"), (b"take", "a"), {"take": "a"},
    ]
