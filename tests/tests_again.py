"""The document once more, read straight off its words, to hold the package against: slow, and without masks."""

import itertools

from tests_kit import all_builds


def is_want_met(build, want):
    kind, _, names, *many = want
    least = {"all": len(names), "any": 1, "count": sum(many)}[kind]
    return len(set(build) & set(names)) >= least


def is_tier_met(book, build, skill):
    tiers, needs = dict(book.skills()), dict(book.needs())
    return sum(tiers[name] < tiers[skill] for name in build) >= needs.get(tiers[skill], 0)


def is_met(book, build, skill):
    wants = [want for want in book.wants() if want[1] == skill]
    return is_tier_met(book, build, skill) and all(is_want_met(build, want) for want in wants)


def points_let(book, build):
    return book.points + sum(points for skill, points in book.gives() if skill in build)


def holds(book, build):
    """[2]."""
    if any(set(build) >= set(bar) for bar in book.bars()) or len(build) > points_let(book, build):
        return False
    return all(is_met(book, build, skill) for skill in build)


def good_builds(book):
    """All builds that hold, in the order of [12]."""
    return [build for build in all_builds(book.names()) if holds(book, build)]


def moves(book, build):
    """[3]: each step that is possible, in order: (step, price, build behind it)."""
    takes, gives = [], []
    prices = dict(book.prices())
    for skill in book.names():
        behind = tuple(name for name in book.names() if (name in build) != (name == skill))
        if holds(book, behind):
            if skill in build:
                gives.append((("give", skill), prices.get(skill, 1), behind))
            else:
                takes.append((("take", skill), 0, behind))
    resets = [(("reset",), book.reset, ())] if book.reset is not None and build != () else []
    return takes + gives + resets


def all_moves(book):
    """The moves at each build that holds."""
    return {build: moves(book, build) for build in good_builds(book)}


def come_from(table, start, kinds=("take", "give")):
    """The builds that steps of some kinds lead to, in the order of [12]."""
    come, fresh = {start}, [start]
    while fresh:
        fresh = [behind for build in fresh for step, _, behind in table[build] if step[0] in kinds]
        fresh = list(set(fresh) - come)
        come.update(fresh)
    return [build for build in table if build in come]


def least_to(table, goal, cost=lambda step, price: price):
    """The least cost to a build from each build from which ways lead, each step of some cost, or None for no step."""
    least, changed = {goal: 0}, True
    while changed:
        changed = False
        for build, rows in table.items():
            for step, price, behind in rows:
                if behind in least and cost(step, price) is not None:
                    told = least[behind] + cost(step, price)
                    if told < least.get(build, told + 1):
                        least[build], changed = told, True
    return least


def played(table, build, way):
    """The price and the end of a way, or None if it is none."""
    cost = 0
    for step in way:
        rows = [(price, behind) for told, price, behind in table[build] if told == step]
        if len(rows) != 1:
            return None
        cost, build = cost + rows[0][0], rows[0][1]
    return cost, build


def without_reset(step, price):
    """Each step is one, and there are no resets: what least_to tells is the fewest steps."""
    return None if step == ("reset",) else 1


def give_backs(step, price):
    """Gives alone count, and there are no resets."""
    return {"take": 0, "give": 1, "reset": None}[step[0]]


def is_right(table, paper):
    """[9], of a paper whose note is that of the book of the table, and whose other parts are of the right kinds."""
    kind, _, one, other = paper[:4]
    if kind == "never":
        builds = paper[4]
        closed = all(behind in builds for build in builds for _, _, behind in table[build])
        return one in builds and other not in builds and closed
    way, numbers = paper[4:]
    told = dict(numbers)
    if played(table, one, way) is None or len(told) != len(numbers):
        return False
    price, end = played(table, one, way)
    if end != other or told.get(one) != price or told.get(other) != 0:
        return False
    rows = [(build, price, behind) for build in told for _, price, behind in table[build]]
    return all(behind in told and price + told[behind] >= told[build] for build, price, behind in rows)


def open_wishes(table, build, wishes, many):
    """[10], of builds that hold."""
    return [wish for wish in wishes if least_to(table, wish, give_backs).get(build, many + 1) <= many]


def free_takes(table, build, wishes, many):
    takes = [(step[1], behind) for step, _, behind in table[build] if step[0] == "take"]
    return [skill for skill, behind in takes if open_wishes(table, behind, wishes, many) == list(wishes)]


def carried(old, new, build, kind):
    """[11]."""
    rest = tuple(skill for skill in new.names() if skill in build)
    return {"keep": lambda: rest, "fall": lambda: fallen(new, rest), "grown": lambda: grown_part(new, rest)}[kind]()


def fallen(book, build):
    loose = [skill for skill in build if not is_met(book, build, skill)]
    barred = [bar for bar in book.bars() if set(bar) <= set(build)]
    if loose:
        going = loose
    elif barred:
        going = [max(barred[0], key=book.names().index)]
    elif len(build) > points_let(book, build):
        going = [build[-1]]
    else:
        return build
    return fallen(book, tuple(skill for skill in build if skill not in going))


def grown_part(book, build, taken=()):
    for skill in build:
        more = tuple(name for name in book.names() if name in taken or name == skill)
        if skill not in taken and holds(book, more):
            return grown_part(book, build, more)
    return taken


def traps(table):
    come = come_from(table, ())
    return [build for build in table if build not in come]


def reached(book):
    return come_from(all_moves(book), ())


def is_enough(book, indexes):
    """[14]."""
    wants = [want for index, want in enumerate(book.wants()) if index in indexes]
    return reached(book.changed(wants=wants)) == reached(book)


def least_wants(book):
    indexes = range(len(book.wants()))
    sets = [part for size in range(len(indexes) + 1) for part in itertools.combinations(indexes, size)]
    enough = [part for part in sets if is_enough(book, part)]
    return [part for part in enough if not any(set(other) < set(part) for other in enough)]


def right_wants(names, seen, skill):
    """[13]: all tuples that a skill can want, by what was let."""
    others = [name for name in names if name != skill]
    rows = [(set(build), let) for build, asked, let in seen if asked == skill]
    return [want for want in all_builds(others) if all((set(want) <= build) is let for build, let in rows)]
