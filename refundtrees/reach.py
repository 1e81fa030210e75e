"""Which builds can be come to from the empty one, by which ways, and with how many points."""

from refundtrees.checks import mask_of_build, mask_of_held
from refundtrees.errors import NoNumber
from refundtrees.finding import Leads, come_to, grown_masks
from refundtrees.parts import MOST_POINTS
from refundtrees.rules import Rules, sorted_masks
from refundtrees.words import is_number_in


def reached(book):
    """All builds that can be come to, in order."""
    rules = Rules(book)
    return builds_of(rules, come_to(rules, 0))


def comes(book, build):
    """Whether a build can be come to."""
    rules = Rules(book)
    return is_come_to(rules, mask_of_build(rules, build))


def knots(book):
    """All builds that can be come to and are not grown, in order."""
    rules = Rules(book)
    grown = grown_masks(rules)
    return builds_of(rules, [mask for mask in come_to(rules, 0) if mask not in grown])


def way_to(book, one, other):
    """A way without a reset with the fewest steps between two builds that hold, or None."""
    rules = Rules(book)
    start, goal = mask_of_held(rules, one), mask_of_held(rules, other)
    # Where nothing costs anything, a cheapest way is one with the fewest steps.
    return Leads(rules, goal, {bit: 0 for bit in rules.bits}, None).way_from(start)


def fewest_points(book, build):
    """The fewest points, the book else as it is, with which a build can be come to, or None."""
    mask = mask_of_build(Rules(book), build)
    for points in range(MOST_POINTS + 1):
        if is_come_to(Rules(book.changed(points=points)), mask):
            return points
    return None


def closed_without(book, build, points):
    """All builds that can be come to with so many points, in order; None if the build is among them."""
    mask = mask_of_build(Rules(book), build)
    if not is_number_in(points, 0, MOST_POINTS):
        raise NoNumber(points)
    rules = Rules(book.changed(points=points))
    come = come_to(rules, 0)
    return None if mask in come else builds_of(rules, come)


def is_come_to(rules, mask):
    """Whether a mask can be come to."""
    # A way leads from the empty one exactly if one leads back to it.
    return rules.is_good(mask) and 0 in come_to(rules, mask, 0)


def builds_of(rules, masks):
    """The builds of a list of masks, in order."""
    return [rules.build_of_mask(mask) for mask in sorted_masks(masks)]
