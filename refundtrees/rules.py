"""When a skill is met in a build, and when a build holds; the builds are right ones of the book."""


def many_wanted(want):
    """How many of its names a want asks for."""
    if want[0] == "all":
        return len(want[2])
    if want[0] == "any":
        return 1
    return want[3]


def is_want_met(build, want):
    """Whether enough of the names of a want are in a build."""
    return len([name for name in want[2] if name in build]) >= many_wanted(want)


def is_tier_met(book, build, skill):
    """Whether enough skills of a build are of lower tiers than a skill."""
    lower = [name for name in build if book[name] < book[skill]]
    return len(lower) >= book.need_of(book[skill])


def is_skill_met(book, build, skill):
    """Whether a skill of the book, in the build or not, is met in a build."""
    return is_tier_met(book, build, skill) and all([is_want_met(build, want) for want in book.wants_of(skill)])


def is_barred(build, bar):
    """Whether a build has both skills of a bar."""
    return bar[0] in build and bar[1] in build


def points_for(book, build):
    """The points of a book, and those that the skills of a build give, for themselves too."""
    return book.points + sum([book.given_by(skill) for skill in build])


def is_held(book, build):
    """Whether all skills of a build are met, no bar has both of its skills in it, and the points suffice."""
    if len(build) > points_for(book, build) or any([is_barred(build, bar) for bar in book.bars()]):
        return False
    return all([is_skill_met(book, build, skill) for skill in build])
