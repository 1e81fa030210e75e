"""Worths of skills and builds, and the builds of the greatest worth."""

from refundtrees.checks import mask_of_build
from refundtrees.errors import NoWorth
from refundtrees.finding import come_to
from refundtrees.reach import builds_of
from refundtrees.rules import Rules, size_of, sorted_masks
from refundtrees.words import is_number_in, is_one_of

LEAST_WORTH = -99
MOST_WORTH = 99


def worth_of(book, build, worths):
    """The worth of a build, whether it holds or not."""
    rules = Rules(book)
    mask = mask_of_build(rules, build)
    must_be_worths(book, worths)
    return worth_of_mask(worth_by_bit(rules, worths), mask)


def greatest(book, worths):
    """The greatest worth of the builds that hold, and all that have it, in order."""
    must_be_worths(book, worths)
    rules = Rules(book)
    return greatest_of(rules, rules.good_masks(), worths)


def greatest_come(book, worths):
    """The greatest worth of the builds that can be come to, and all that have it, in order."""
    must_be_worths(book, worths)
    rules = Rules(book)
    return greatest_of(rules, come_to(rules, 0), worths)


def best_by_size(book, worths):
    """The dict from each size that some build that holds has to the greatest worth of such a one."""
    must_be_worths(book, worths)
    rules = Rules(book)
    told = worth_by_bit(rules, worths)
    best = {}
    for mask in sorted_masks(rules.good_masks()):
        worth = worth_of_mask(told, mask)
        best[size_of(mask)] = max(worth, best.get(size_of(mask), worth))
    return best


def must_be_worths(book, worths):
    """Raises NoWorth(worths) unless any value is a dict from skills of the book to worths."""
    if not isinstance(worths, dict):
        raise NoWorth(worths)
    for skill, worth in worths.items():
        if not is_one_of(book.names(), skill) or not is_number_in(worth, LEAST_WORTH, MOST_WORTH):
            raise NoWorth(worths)


def worth_by_bit(rules, worths):
    """The worths by the bits of the skills that they are told for."""
    return {rules.mask_of([skill]): worth for skill, worth in worths.items()}


def worth_of_mask(told, mask):
    """The worth of a mask, by the worths of bits."""
    return sum([worth for bit, worth in told.items() if mask & bit])


def greatest_of(rules, masks, worths):
    """The greatest worth of some masks, at least one, and the builds of all that have it, in order."""
    told = worth_by_bit(rules, worths)
    worth_by_mask = {mask: worth_of_mask(told, mask) for mask in masks}
    most = max(list(worth_by_mask.values()))
    return most, builds_of(rules, [mask for mask in masks if worth_by_mask[mask] == most])
