"""Books that look down, plain and bare ones, and builds that takes alone lead to."""

from refundtrees.checks import mask_of_build
from refundtrees.rules import Rules


def looks_down(book):
    """Whether each want names only skills that stand ahead of its skill."""
    places = {name: place for place, name in enumerate(book.names())}
    return all([places[name] < places[want[1]] for want in book.wants() for name in want[2]])


def is_plain(book):
    """Whether a book looks down, all of its wants are "all", and it has no bars and gives no points."""
    if not looks_down(book) or book.bars() or book.gives():
        return False
    return all([want[0] == "all" for want in book.wants()])


def is_bare(book):
    """Whether a book is plain and has no wants."""
    return is_plain(book) and not book.wants()


def ground(book):
    """The build of all skills that are taken as long as some is met, points and bars left aside."""
    rules = Rules(book)
    mask = 0
    # What is met stays so as more is taken: no more rounds than skills bring anything new.
    for _ in book.names():
        mask = sum([bit for bit in rules.bits if not rules.unmet(mask, bit)])
    return rules.build_of_mask(mask)


def is_grown(book, build):
    """Whether takes alone lead to a build from the empty one."""
    return growth(book, build) is not None


def growth(book, build):
    """The least order in which the skills of a build can be taken from the empty one, or None."""
    rules = Rules(book)
    goal = mask_of_build(rules, build)
    bits = grown_on(rules, 0, goal, {}) if rules.is_good(goal) else None
    if bits is None:
        return None
    return [rules.build_of_mask(bit)[0] for bit in bits]


def grown_on(rules, mask, goal, stuck):
    """The least order in which takes lead from a mask to a goal, as a list of bits, or None."""
    # Where skills give points a take too early can be one too many, so that it
    # has to be undone: masks that do not lead on are kept, to be tried only once.
    if mask == goal:
        return []
    for bit in rules.bits:
        if goal & bit and not mask & bit and mask | bit not in stuck and rules.is_good(mask | bit):
            bits = grown_on(rules, mask | bit, goal, stuck)
            if bits is not None:
                return [bit] + bits
    stuck[mask] = True
    return None
