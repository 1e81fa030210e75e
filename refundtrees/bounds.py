"""How often something has to be given back on a way without a reset."""

from refundtrees.checks import mask_of_held
from refundtrees.errors import NoNumber
from refundtrees.finding import Leads
from refundtrees.rules import Rules
from refundtrees.words import is_number


def fewest_gives(book, one, other):
    """The fewest give-backs of a way without a reset between two builds that hold, or None."""
    rules = Rules(book)
    start, goal = mask_of_held(rules, one), mask_of_held(rules, other)
    # Where each give costs one, the price of a way is how many it has.
    return Leads(rules, goal, {bit: 1 for bit in rules.bits}, None).price_from(start)


def is_open(book, one, other, many):
    """Whether a way without a reset with at most so many give-backs leads between two builds that hold."""
    fewest = fewest_gives(book, one, other)
    if not is_number(many) or many < 0:
        raise NoNumber(many)
    return fewest is not None and fewest <= many
