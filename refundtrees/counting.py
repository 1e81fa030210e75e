"""All builds that hold: one after the other, how many there are, and which is the so-manieth."""

from math import comb

from refundtrees.checks import mask_of_held
from refundtrees.errors import NoNumber, NoPlain
from refundtrees.growing import is_bare
from refundtrees.parts import LAST_TIER
from refundtrees.rules import Rules, size_of, sorted_masks
from refundtrees.words import is_number_in


def all_builds(book):
    """All builds that hold, in order."""
    rules = Rules(book)
    for mask in ordered_masks(rules):
        yield rules.build_of_mask(mask)


def how_many(book):
    """How many builds hold."""
    return len(Rules(book).good_masks())


def by_size(book):
    """How many builds hold of each size from 0 to the number of skills."""
    many = [0 for _ in range(len(book) + 1)]
    for mask in Rules(book).good_masks():
        many[size_of(mask)] = many[size_of(mask)] + 1
    return many


def build_at(book, number):
    """The so-manieth build that holds, from 0 on."""
    rules = Rules(book)
    masks = ordered_masks(rules)
    if not is_number_in(number, 0, len(masks) - 1):
        raise NoNumber(number)
    return rules.build_of_mask(masks[number])


def number_of(book, build):
    """The so-manieth of the builds that hold a build is, from 0 on."""
    rules = Rules(book)
    mask = mask_of_held(rules, build)
    return ordered_masks(rules).index(mask)


def bare_count(book):
    """How many builds hold in a bare book, by how many skills of each tier are taken alone."""
    if not is_bare(book):
        raise NoPlain(book)
    # By how many skills are taken of the tiers so far: in how many ways.
    ways = [1]
    for tier in range(1, LAST_TIER + 1):
        ways = ways_with_tier(ways, len([name for name in book if book[name] == tier]), book.need_of(tier))
    return sum(ways[: book.points + 1])


def ways_with_tier(ways, skills, need):
    """In how many ways so many skills are taken of some tiers and the next one, which has skills and a need."""
    more = [0 for _ in range(len(ways) + skills)]
    for below, so_far in enumerate(ways):
        for taken in range(skills + 1 if below >= need else 1):
            more[below + taken] = more[below + taken] + so_far * comb(skills, taken)
    return more


def ordered_masks(rules):
    """The masks of all builds that hold, in order."""
    return sorted_masks(rules.good_masks())
