"""What is handed in, any value, and refused where it is none: builds, as masks, and how many give-backs."""

from refundtrees.builds import is_build
from refundtrees.errors import NoBuild, NoNumber
from refundtrees.words import is_number


def mask_of_build(rules, build):
    """The mask of any value that is a build of the book; raises NoBuild(build)."""
    if not is_build(rules.book, build):
        raise NoBuild(build)
    return rules.mask_of(build)


def is_held(rules, value):
    """Whether any value is a build of the book that holds."""
    return is_build(rules.book, value) and rules.is_good(rules.mask_of(value))


def mask_of_held(rules, build):
    """The mask of any value that is a build that holds; raises NoBuild(build)."""
    if not is_held(rules, build):
        raise NoBuild(build)
    return rules.mask_of(build)


def must_be_many(many):
    """Raises NoNumber(many) unless any value is how many give-backs are let, a number from 0."""
    if not is_number(many) or many < 0:
        raise NoNumber(many)
