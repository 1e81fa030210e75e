"""Builds: tuples of unlike skills of a book, in its order, and builds as values."""

from refundtrees.errors import NoBuild
from refundtrees.rules import Rules
from refundtrees.words import are_unlike, is_one_of, is_ordered


def is_build(book, value):
    """Whether any value is a build of a book."""
    return is_ordered(book.names(), value)


def build_of(book, skills):
    """The build of a list or tuple of unlike skills of the book, in any order."""
    if not isinstance(skills, (list, tuple)) or not are_unlike(book.names(), skills):
        raise NoBuild(skills)
    return tuple([name for name in book.names() if name in skills])


class Build:
    """A build of a book as a value: nothing changes it."""

    def __init__(self, book, skills=()):
        self._skills = build_of(book, skills)
        self._book = book

    def skills(self):
        """The build, as a tuple."""
        return self._skills

    def listed(self):
        """What is iterated over: the skills, in order."""
        return list(self._skills)

    def within(self, other):
        """Whether all of it is in another one: a Build of an equal book, or a list or tuple of skills."""
        beside = self._beside(other)
        return all([name in beside for name in self._skills])

    def is_good(self):
        """Whether the build holds."""
        rules = Rules(self._book)
        return rules.is_good(rules.mask_of(self._skills))

    def _beside(self, other):
        if not isinstance(other, Build):
            return build_of(self._book, other)
        if other._book != self._book:
            raise NoBuild(other)
        return other._skills

    def __or__(self, other):
        beside = self._beside(other)
        return Build(self._book, [name for name in self._book.names() if name in self._skills or name in beside])

    def __ror__(self, other):
        return self | other

    def __and__(self, other):
        beside = self._beside(other)
        return Build(self._book, [name for name in self._skills if name in beside])

    def __rand__(self, other):
        return self & other

    def __sub__(self, other):
        beside = self._beside(other)
        return Build(self._book, [name for name in self._skills if name not in beside])

    def __rsub__(self, other):
        beside = self._beside(other)
        return Build(self._book, [name for name in beside if name not in self._skills])

    def __contains__(self, x):
        return is_one_of(self._skills, x)

    def __len__(self):
        return len(self._skills)

    def __iter__(self):
        return iter(self._skills)

    def __eq__(self, other):
        return isinstance(other, Build) and self._book == other._book and self._skills == other._skills
