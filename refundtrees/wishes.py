"""Wishes: builds that are still to be come to, with so many give-backs, and what may be taken until then."""

from refundtrees.checks import is_held, mask_of_held, must_be_many
from refundtrees.errors import NoNumber, NoWish
from refundtrees.finding import by_give_backs
from refundtrees.parts import MOST_POINTS
from refundtrees.rules import Rules
from refundtrees.words import is_number_in

MOST_WISHES = 4


def open_wishes(book, build, wishes, many):
    """Those of some wishes, in their order, that are open at a build with so many give-backs."""
    rules, mask = asked_at(book, build, wishes, many)
    return [wish for wish, leads in zip(wishes, leads_to(rules, wishes)) if leads.is_within(mask, many)]


def free_takes(book, build, wishes, many):
    """The skills, in order, that can be taken and behind which all of the wishes are open still."""
    rules, mask = asked_at(book, build, wishes, many)
    return [rules.build_of_mask(bit)[0] for bit in free_bits(rules, mask, leads_to(rules, wishes), many)]


def waits(book, build, wishes, many):
    """Whether all wishes are open, none of them is the build, and no take is free."""
    rules, mask = asked_at(book, build, wishes, many)
    leads = leads_to(rules, wishes)
    if build in wishes or not are_open(leads, mask, many):
        return False
    return not free_bits(rules, mask, leads, many)


def levels(book, build, wish, many, last):
    """The fewest points, from the book's on to last, with which a wish is open at a build, or None."""
    mask = mask_of_held(Rules(book), build)
    if not is_number_in(last, book.points, MOST_POINTS):
        raise NoNumber(last)
    if not is_held(Rules(book.changed(points=last)), wish):
        raise NoWish(wish)
    must_be_many(many)
    for points in range(book.points, last + 1):
        rules = Rules(book.changed(points=points))
        # With fewer points than the last ones the wish need not hold yet.
        if is_held(rules, wish) and are_open(leads_to(rules, [wish]), mask, many):
            return points
    return None


def asked_at(book, build, wishes, many):
    """The rules of a book, and the mask of its build; raises NoBuild, NoWish, NoNumber."""
    rules = Rules(book)
    mask = mask_of_held(rules, build)
    if not are_wishes(rules, wishes):
        raise NoWish(wishes)
    must_be_many(many)
    return rules, mask


def are_wishes(rules, value):
    """Whether any value is a list or tuple of one to four builds that hold."""
    if not isinstance(value, (list, tuple)) or not 1 <= len(value) <= MOST_WISHES:
        return False
    return all([is_held(rules, wish) for wish in value])


def leads_to(rules, wishes):
    """For each wish, how the ways to it with the fewest give-backs begin."""
    return [by_give_backs(rules, rules.mask_of(wish)) for wish in wishes]


def are_open(leads, mask, many):
    """Whether all wishes are open at a mask."""
    return all([one.is_within(mask, many) for one in leads])


def free_bits(rules, mask, leads, many):
    """The bits of the skills, in order, behind the takes of which all wishes are open."""
    return [bit for bit in rules.takes_at(mask) if are_open(leads, mask | bit, many)]
