"""The parts of a book: whether each is right, by itself and beside the skills."""

from refundtrees.words import are_unlike, is_number_in, is_one_of, is_word

MOST_SKILLS = 12
LAST_TIER = 4
MOST_POINTS = 12
MOST_NEED = 12
MOST_WANTS = 12
MOST_BARS = 6
MOST_GIVEN = 3
MOST_PRICE = 99


def wrong_part(skills, points, needs, wants, bars, gives, prices, reset):
    """The name of the first part, in this order, that is wrong, or None; the parts are any values."""
    if not are_skills(skills):
        return "skills"
    names = [name for name, _ in skills]
    answers = [
        ("points", is_number_in(points, 0, MOST_POINTS)),
        ("needs", are_needs(needs)),
        ("wants", are_wants(names, wants)),
        ("bars", are_bars(names, bars)),
        ("gives", are_told_once(names, gives, 1, MOST_GIVEN)),
        ("prices", are_told_once(names, prices, 0, MOST_PRICE)),
        ("reset", reset is None or is_number_in(reset, 0, MOST_PRICE)),
    ]
    wrong = [part for part, right in answers if not right]
    return wrong[0] if wrong else None


def are_rows(value, most):
    """Whether any value is a list or tuple of at most so many items."""
    return isinstance(value, (list, tuple)) and len(value) <= most


def is_pair(value):
    """Whether any value is a tuple of two."""
    return isinstance(value, tuple) and len(value) == 2


def are_skills(value):
    """Whether any value is one to twelve unlike words, each with its tier, not falling."""
    if not are_rows(value, MOST_SKILLS) or len(value) == 0:
        return False
    if not all([is_pair(row) and is_word(row[0]) and is_number_in(row[1], 1, LAST_TIER) for row in value]):
        return False
    names = [name for name, _ in value]
    tiers = [tier for _, tier in value]
    return are_unlike(names, names) and tiers == sorted(tiers)


def are_needs(value):
    """Whether any value is the needs of some tiers from 2 on, ascending, none twice."""
    if not are_rows(value, LAST_TIER - 1):
        return False
    if not all([is_need(row) for row in value]):
        return False
    tiers = [tier for tier, _ in value]
    return tiers == sorted(set(tiers))


def is_need(row):
    """Whether any value is a pair of a tier from 2 on and its need."""
    return is_pair(row) and is_number_in(row[0], 2, LAST_TIER) and is_number_in(row[1], 0, MOST_NEED)


def are_wants(names, value):
    """Whether any value is up to twelve wants of skills; a like one may stand there again."""
    return are_rows(value, MOST_WANTS) and all([is_want(names, row) for row in value])


def is_want(names, row):
    """Whether any value is a want of one of the skills for others."""
    if not isinstance(row, tuple) or len(row) < 3 or not isinstance(row[0], str):
        return False
    if not is_one_of(names, row[1]) or not are_others(names, row[1], row[2]):
        return False
    if row[0] == "count":
        return len(row) == 4 and is_number_in(row[3], 1, len(row[2]))
    return row[0] in ("all", "any") and len(row) == 3


def are_others(names, skill, value):
    """Whether any value is a tuple of one or more unlike names, the skill itself not among them."""
    return isinstance(value, tuple) and len(value) > 0 and are_unlike(names, value) and skill not in value


def are_bars(names, value):
    """Whether any value is up to six pairs of unlike skills, no pair twice, either way about."""
    if not are_rows(value, MOST_BARS):
        return False
    if not all([is_pair(row) and are_unlike(names, row) for row in value]):
        return False
    pairs = [tuple(sorted(row)) for row in value]
    return len(set(pairs)) == len(pairs)


def are_told_once(names, value, low, high):
    """Whether any value is pairs of a skill and a number from low to high, no skill twice."""
    if not are_rows(value, len(names)):
        return False
    if not all([is_pair(row) and is_number_in(row[1], low, high) for row in value]):
        return False
    return are_unlike(names, [skill for skill, _ in value])
