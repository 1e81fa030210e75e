"""Carrying builds over to another book, and traps, from which there is no way to the empty build."""

from refundtrees.checks import mask_of_held
from refundtrees.errors import NoKind
from refundtrees.finding import come_to
from refundtrees.reach import builds_of, is_come_to
from refundtrees.rules import Rules, size_of
from refundtrees.words import is_one_of

KINDS = ("fall", "grown", "keep")


def carried(old, new, build, kind):
    """The build of the new book that one of the old book, which holds there, is carried over to."""
    must_be_carried(old, build, kind)
    rules = Rules(new)
    return rules.build_of_mask(carried_mask(rules, build, kind))


def lost(old, new, build, kind):
    """The skills of a build that go when it is carried over, in the order of the old book."""
    kept = carried(old, new, build, kind)
    return [skill for skill in build if skill not in kept]


def is_trap(book, build):
    """Whether no way without a reset leads from a build that holds to the empty one."""
    rules = Rules(book)
    return not is_come_to(rules, mask_of_held(rules, build))


def traps(book):
    """All traps, in order."""
    rules = Rules(book)
    come = {mask: True for mask in come_to(rules, 0)}
    return builds_of(rules, [mask for mask in rules.good_masks() if mask not in come])


def never_traps(old, new, kind):
    """Whether all that can be come to in the old book is carried over to what holds and is no trap."""
    must_be_kind(kind)
    rules_of_old, rules = Rules(old), Rules(new)
    safe = {mask: True for mask in come_to(rules, 0)}
    for mask in come_to(rules_of_old, 0):
        if carried_mask(rules, rules_of_old.build_of_mask(mask), kind) not in safe:
            return False
    return True


def must_be_carried(old, build, kind):
    """Raises NoBuild(build) unless any value is a build that holds in the old book, then NoKind(kind)."""
    mask_of_held(Rules(old), build)
    must_be_kind(kind)


def must_be_kind(kind):
    """Raises NoKind(kind) unless any value is a kind of carrying over."""
    if not is_one_of(KINDS, kind):
        raise NoKind(kind)


def carried_mask(rules, build, kind):
    """The mask, by the rules of the new book, that a build of the old one is carried over to."""
    mask = rules.mask_of([skill for skill in build if skill in rules.book])
    if kind == "fall":
        return fallen(rules, mask)
    if kind == "grown":
        return grown_part(rules, mask)
    return mask


def fallen(rules, mask):
    """What is left of a mask that falls until it holds."""
    going = falling(rules, mask)
    while going:
        mask = mask ^ going
        going = falling(rules, mask)
    return mask


def falling(rules, mask):
    """What goes next of a mask that falls, 0 if it holds."""
    loose = sum([bit for bit in rules.bits if mask & bit and rules.unmet(mask, bit)])
    if loose:
        return loose
    if rules.barred(mask):
        return latest_of(rules.barred(mask))
    return latest_of(mask) if size_of(mask) > rules.points_let(mask) else 0


def latest_of(mask):
    """The bit of the latest skill of a mask."""
    # Later skills have lower bits.
    return mask & -mask


def grown_part(rules, mask):
    """What is taken of a mask from the empty one on, the earliest that can be taken each time."""
    taken = 0
    bit = earliest_take(rules, taken, mask)
    while bit:
        taken = taken | bit
        bit = earliest_take(rules, taken, mask)
    return taken


def earliest_take(rules, taken, mask):
    """The bit of the earliest skill of a mask that can be taken at what is taken, 0 if there is none."""
    for bit in rules.bits:
        if mask & bit and not taken & bit and rules.is_good(taken | bit):
            return bit
    return 0
