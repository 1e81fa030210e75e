"""When builds of a book hold, what they lack where they do not, and the steps between those that do."""

from refundtrees.checks import mask_of_build, mask_of_held
from refundtrees.errors import NoSkill, NoStep
from refundtrees.rules import Rules


def holds(book, build):
    """Whether a build holds."""
    rules = Rules(book)
    return rules.is_good(mask_of_build(rules, build))


def lacks(book, build):
    """What does not hold of a build: pairs (skill, word), then ("bar", pair), then ("points", many)."""
    rules = Rules(book)
    mask = mask_of_build(rules, build)
    pairs = []
    for skill in build:
        for word in rules.unmet(mask, rules.mask_of([skill])):
            if (skill, word) not in pairs:
                pairs.append((skill, word))
    bars = [("bar", bar) for bar in book.bars() if bar[0] in build and bar[1] in build]
    many = len(build) - rules.points_let(mask)
    return pairs + bars + ([("points", many)] if many > 0 else [])


def is_met(book, build, skill):
    """Whether a skill of the book, in the build or not, is met in a build."""
    rules = Rules(book)
    mask = mask_of_build(rules, build)
    if skill not in book:
        raise NoSkill(skill)
    return not rules.unmet(mask, rules.mask_of([skill]))


def size_let(book, build):
    """The points of the book, and those that the skills of a build give, for themselves too."""
    rules = Rules(book)
    return rules.points_let(mask_of_build(rules, build))


def steps(book, build):
    """The steps that are possible at a build that holds: takes, gives, the reset."""
    rules = Rules(book)
    mask = mask_of_held(rules, build)
    for bit in rules.bits_at(mask):
        yield rules.step_of_bit(mask, bit)


def behind(book, build, step):
    """The build behind a step."""
    rules = Rules(book)
    mask = mask_of_held(rules, build)
    return rules.build_of_mask(rules.behind_bit(mask, possible_bit(rules, mask, step)))


def price_of_step(book, build, step):
    """What a step costs."""
    rules = Rules(book)
    mask = mask_of_held(rules, build)
    return rules.price_of_bit(mask, possible_bit(rules, mask, step))


def possible_bit(rules, mask, step):
    """The bit of any value that is a step that is possible at a mask; raises NoStep(step)."""
    bit = rules.bit_of_step(mask, step)
    if bit is None:
        raise NoStep(step)
    return bit
