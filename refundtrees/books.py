"""Books: the skills that there are, what they want, and what giving them back costs."""

from refundtrees.errors import NoBook, NoNumber, NoSkill
from refundtrees.parts import LAST_TIER, wrong_part
from refundtrees.words import is_number_in, is_one_of


class Book:
    """A book of skills as a value: nothing changes it, changed() makes another one."""

    def __init__(self, skills, points, *, needs=(), wants=(), bars=(), gives=(), prices=(), reset=None):
        part = wrong_part(skills, points, needs, wants, bars, gives, prices, reset)
        if part is not None:
            raise NoBook(part)
        # As they were told, because books are equal by this alone; by the names
        # of the parameters, because changed() is asked by them.
        self._parts = {
            "skills": tuple(skills),
            "points": points,
            "needs": tuple(needs),
            "wants": tuple(wants),
            "bars": tuple(bars),
            "gives": tuple(gives),
            "prices": tuple(prices),
            "reset": reset,
        }
        self._names = tuple([name for name, _ in skills])
        self._tiers = dict(skills)
        self._need_by_tier = dict(needs)
        self._given_by_skill = dict(gives)
        self._price_by_skill = dict(prices)

    def skills(self):
        """The pairs (name, tier), as they were handed in."""
        return list(self._parts["skills"])

    def needs(self):
        """The pairs (tier, need), as they were handed in."""
        return list(self._parts["needs"])

    def wants(self):
        """The rows of the wants, as they were handed in."""
        return list(self._parts["wants"])

    def bars(self):
        """The pairs of skills that bar one another, as they were handed in."""
        return list(self._parts["bars"])

    def gives(self):
        """The pairs (skill, points), as they were handed in."""
        return list(self._parts["gives"])

    def prices(self):
        """The pairs (skill, price), as they were handed in."""
        return list(self._parts["prices"])

    @property
    def points(self):
        """How many points there are, without those that skills give."""
        return self._parts["points"]

    @property
    def reset(self):
        """The price of a reset, or None."""
        return self._parts["reset"]

    def names(self):
        """The names of the skills, in order."""
        return list(self._names)

    def listed(self):
        """What is iterated over: the names of the skills, in order."""
        return list(self._names)

    def need_of(self, tier):
        """How many skills of lower tiers a tier needs."""
        if not is_number_in(tier, 1, LAST_TIER):
            raise NoNumber(tier)
        return self._need_by_tier.get(tier, 0)

    def price_of(self, skill):
        """The price of giving a skill back."""
        self._must_have(skill)
        return self._price_by_skill.get(skill, 1)

    def given_by(self, skill):
        """How many points a skill gives."""
        self._must_have(skill)
        return self._given_by_skill.get(skill, 0)

    def wants_of(self, skill):
        """The rows of the wants of a skill, in order."""
        self._must_have(skill)
        return [want for want in self._parts["wants"] if want[1] == skill]

    def changed(self, **parts):
        """An equal book but for the told parameters."""
        for name in sorted(parts):
            if name not in self._parts:
                raise NoBook(name)
        told = {**self._parts, **parts}
        return Book(**told)

    def _must_have(self, skill):
        if not is_one_of(self._names, skill):
            raise NoSkill(skill)

    def __getitem__(self, at):
        self._must_have(at)
        return self._tiers[at]

    def __contains__(self, x):
        return is_one_of(self._names, x)

    def __len__(self):
        return len(self._names)

    def __iter__(self):
        return iter(self._names)

    def __eq__(self, other):
        return isinstance(other, Book) and self._parts == other._parts
