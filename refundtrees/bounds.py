"""How often something has to be given back on a way without a reset."""

from refundtrees.checks import mask_of_held, must_be_many
from refundtrees.finding import by_give_backs
from refundtrees.rules import Rules


def fewest_gives(book, one, other):
    """The fewest give-backs of a way without a reset between two builds that hold, or None."""
    rules = Rules(book)
    start, goal = mask_of_held(rules, one), mask_of_held(rules, other)
    return by_give_backs(rules, goal).price_from(start)


def is_open(book, one, other, many):
    """Whether a way without a reset with at most so many give-backs leads between two builds that hold."""
    rules = Rules(book)
    start, goal = mask_of_held(rules, one), mask_of_held(rules, other)
    must_be_many(many)
    return by_give_backs(rules, goal).is_within(start, many)
