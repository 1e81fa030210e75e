"""Least prices: in plain books by a formula and its way, in others by looking at all builds that hold."""

from refundtrees.checks import mask_of_held
from refundtrees.errors import NoPlain
from refundtrees.finding import Leads
from refundtrees.growing import is_plain
from refundtrees.rules import Rules, size_of
from refundtrees.sparing import spare_way, way_back


def plain_price(book, one, other):
    """The price in a plain book by the formula, resets left aside."""
    rules, start, goal = plain_masks(book, one, other)
    given = [bit for bit in rules.bits if start & bit and not goal & bit]
    again = bit_again(rules, start, goal)
    if again is not None:
        given.append(again)
    return sum([rules.price_of_bit(start, bit) for bit in given])


def plain_way(book, one, other):
    """A way in a plain book without a reset, of the price by the formula."""
    rules, start, goal = plain_masks(book, one, other)
    if start == goal:
        return []
    if len(other) < book.points:
        return spare_way(book, one, other)
    # There is no spare way to a build as great as the points, but one from it
    # to a smaller one: it is gone back, behind a give if there is no smaller one yet.
    way = []
    if len(one) == book.points:
        bit = first_given(rules, start, goal)
        way.append(rules.step_of_bit(start, bit))
        start = rules.behind_bit(start, bit)
    return way + way_back(book, other, spare_way(book, other, rules.build_of_mask(start)))


def is_tight(book, one, other):
    """Whether the formula adds a skill that is given back and taken again."""
    rules, start, goal = plain_masks(book, one, other)
    return bit_again(rules, start, goal) is not None


def plain_masks(book, one, other):
    """The rules of a plain book, and the masks of two of its builds that hold; raises NoPlain, NoBuild."""
    if not is_plain(book):
        raise NoPlain(book)
    rules = Rules(book)
    return rules, mask_of_held(rules, one), mask_of_held(rules, other)


def bit_again(rules, start, goal):
    """The bit of the cheapest skill that has to be given back and taken again, or None."""
    points = rules.book.points
    if start == goal or size_of(start) != points or size_of(goal) != points:
        return None
    free = rules.gives_at(start)
    if any([not goal & bit for bit in free]):
        return None
    return min(free, key=lambda bit: rules.price_of_bit(start, bit))


def first_given(rules, start, goal):
    """The bit of the skill that makes room between two unlike masks as great as the points."""
    again = bit_again(rules, start, goal)
    if again is not None:
        return again
    return [bit for bit in rules.gives_at(start) if not goal & bit][0]


def least_price(book, one, other):
    """The price of a cheapest way between two builds that hold, resets let, or None."""
    rules = Rules(book)
    start, goal = mask_of_held(rules, one), mask_of_held(rules, other)
    return cheapest(rules, goal).price_from(start)


def least_way(book, one, other):
    """A cheapest way between two builds that hold, resets let, or None."""
    rules = Rules(book)
    start, goal = mask_of_held(rules, one), mask_of_held(rules, other)
    return cheapest(rules, goal).way_from(start)


def potentials(book, other):
    """The least prices, resets let, to a build that holds, by the builds from which ways lead to it."""
    rules = Rules(book)
    leads = cheapest(rules, mask_of_held(rules, other))
    return {rules.build_of_mask(mask): leads.price_from(mask) for mask in leads.masks()}


def cheapest(rules, goal):
    """How cheapest ways to a mask begin, resets let."""
    prices = {bit: rules.price_of_bit(bit, bit) for bit in rules.bits}
    return Leads(rules, goal, prices, rules.book.reset)
