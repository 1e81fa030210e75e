"""Wants that are never needed, and books beside one another, by what can be come to in them."""

from refundtrees.errors import NoBook, NoNumber
from refundtrees.finding import come_to, masks_beside
from refundtrees.reach import reached
from refundtrees.rules import Rules, sorted_masks
from refundtrees.words import is_number_in

MOST_TRIED = 8


def idle_wants(book):
    """The indexes of all wants without which, by itself, the same builds can be come to, ascending."""
    bits = bits_of_wants(book)
    stops = stops_of(book)
    # A want is needed where it alone keeps a build out.
    return [index for index, bit in enumerate(bits) if bit not in stops]


def is_enough(book, indexes):
    """Whether with some wants alone, told by their indexes, the same builds can be come to."""
    bits = bits_of_wants(book)
    if not are_indexes(bits, indexes):
        raise NoNumber(indexes)
    return is_stopping(stops_of(book), sum([bits[index] for index in indexes]))


def least_wants(book):
    """All sets of wants that are enough, and of which no smaller part is, by size, then ascending."""
    bits = bits_of_wants(book)
    if len(bits) > MOST_TRIED:
        raise NoBook("wants")
    stops = stops_of(book)
    least = []
    for wants in sorted_masks(list(range(1 << len(bits)))):
        # Parts are smaller, and so they were looked at ahead.
        if is_stopping(stops, wants) and not any([wants & part == part for part in least]):
            least.append(wants)
    return [tuple([index for index, bit in enumerate(bits) if wants & bit]) for wants in least]


def alike(one, other):
    """Whether the same builds can be come to in two books of the same skills, in any order."""
    return sorted(one.names()) == sorted(other.names()) and sets_reached(one) == sets_reached(other)


def is_under(one, other):
    """Whether all that can be come to in the first book can be in the other, as sets of skills."""
    sets = sets_reached(other)
    return all([skills in sets for skills in sets_reached(one)])


def sets_reached(book):
    """The builds that can be come to, each as its names ascending, as the keys of a dict."""
    return {tuple(sorted(build)): True for build in reached(book)}


def bits_of_wants(book):
    """One bit for each want, the greater the earlier it stands, so that sets of wants are sorted as builds are."""
    return [1 << place for place in reversed(range(len(book.wants())))]


def are_indexes(bits, value):
    """Whether any value is a list or tuple of unlike indexes of wants."""
    if not isinstance(value, (list, tuple)) or not all([is_number_in(index, 0, len(bits) - 1) for index in value]):
        return False
    return len(set(value)) == len(value)


def stops_of(book):
    """The unlike sets of unmet wants, as masks and keys of a dict, of the builds that nothing but wants keeps out."""
    # Fewer wants let more: others than those that can be come to can be only if
    # a step leads to one of them. So the builds that are one step away tell all.
    rules, bits = Rules(book), bits_of_wants(book)
    without_wants = Rules(book.changed(wants=[]))
    inside = {mask: True for mask in come_to(rules, 0)}
    outside = {near: True for mask in inside for near in masks_beside(rules, mask) if near not in inside}
    kept_out = [mask for mask in outside if without_wants.is_good(mask)]
    return {sum([bits[index] for index in rules.unmet_wants(mask)]): True for mask in kept_out}


def is_stopping(stops, wants):
    """Whether a set of wants has one of each set that keeps a build out."""
    return all([stop & wants for stop in stops])
