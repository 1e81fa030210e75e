"""Builds that are handed in, as masks: any value that is none, or none that holds, is refused."""

from refundtrees.builds import is_build
from refundtrees.errors import NoBuild


def mask_of_build(rules, build):
    """The mask of any value that is a build of the book; raises NoBuild(build)."""
    if not is_build(rules.book, build):
        raise NoBuild(build)
    return rules.mask_of(build)


def is_held(rules, value):
    """Whether any value is a build of the book that holds."""
    return is_build(rules.book, value) and rules.is_good(rules.mask_of(value))


def mask_of_held(rules, build):
    """The mask of any value that is a build that holds; raises NoBuild(build)."""
    if not is_held(rules, build):
        raise NoBuild(build)
    return rules.mask_of(build)
