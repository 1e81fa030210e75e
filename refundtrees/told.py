"""What the wants of skills can be, by what was let."""

from refundtrees.errors import NoSeen, NoSkill
from refundtrees.parts import MOST_SKILLS
from refundtrees.words import are_unlike, is_one_of, is_ordered, is_word


def is_seen(names, value):
    """Whether any value is what was let, of builds of some skills."""
    must_be_names(names)
    return isinstance(value, (list, tuple)) and all([is_answer(names, row) for row in value])


def explains(names, wants, seen):
    """Whether any value is wants that explain what was let."""
    must_be_seen(names, seen)
    if not are_wants_of_all(names, wants):
        return False
    return all([is_explained(wants[skill], seen, skill) for skill in names])


def greatest_wants(names, seen):
    """The wants that explain what was let and have the most, or None if none explain it."""
    must_be_seen(names, seen)
    wants = {skill: most_wanted(names, seen, skill) for skill in names}
    return wants if explains(names, wants, seen) else None


def must(names, seen, skill):
    """The skills, in order, that all wants that explain what was let have for a skill."""
    most = may(names, seen, skill)
    # If any wants do without a name, then the most of them without it do.
    return [name for name in most if not is_explained([other for other in most if other != name], seen, skill)]


def may(names, seen, skill):
    """The skills, in order, that some wants that explain what was let have for a skill."""
    wants = greatest_wants(names, seen)
    if not is_one_of(names, skill):
        raise NoSkill(skill)
    return [] if wants is None else list(wants[skill])


def next_ask(names, seen, skill):
    """Whether it is not known yet whether a skill wants some other one."""
    return may(names, seen, skill) != must(names, seen, skill)


def must_be_names(names):
    """Raises NoSkill(names) unless any value is a list or tuple of one to twelve unlike words."""
    if not isinstance(names, (list, tuple)) or not 1 <= len(names) <= MOST_SKILLS:
        raise NoSkill(names)
    if not all([is_word(name) for name in names]) or not are_unlike(names, names):
        raise NoSkill(names)


def must_be_seen(names, seen):
    """Raises NoSkill(names), then NoSeen(seen) unless any value is what was let."""
    if not is_seen(names, seen):
        raise NoSeen(seen)


def is_answer(names, row):
    """Whether any value is a triple of a build, a skill that is not in it, and whether it was let."""
    if not isinstance(row, tuple) or len(row) != 3:
        return False
    build, skill, let = row
    if not is_ordered(names, build) or not is_one_of(names, skill) or skill in build:
        return False
    return let is True or let is False


def are_wants_of_all(names, value):
    """Whether any value is a dict from each skill to a tuple of other skills, in order."""
    if not isinstance(value, dict) or len(value) != len(names):
        return False
    if not all([is_one_of(names, skill) for skill in value]):
        return False
    return all([is_ordered(names, value[skill]) and skill not in value[skill] for skill in names])


def is_explained(want, seen, skill):
    """Whether a skill was let exactly if all that it wants were in the build."""
    answers = [(build, let) for build, asked, let in seen if asked == skill]
    return all([let == all([name in build for name in want]) for build, let in answers])


def most_wanted(names, seen, skill):
    """The skills, in order, that were in all builds at which a skill was let."""
    builds = [build for build, asked, let in seen if asked == skill and let]
    return tuple([name for name in names if name != skill and all([name in build for build in builds])])
