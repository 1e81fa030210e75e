"""Ways: spare ones in plain books, what ways cost and where they lead, and walks that are played."""

from refundtrees.checks import mask_of_held
from refundtrees.errors import NoBuild, NoPlain, NoStep, NothingBack, NoWay
from refundtrees.growing import is_plain
from refundtrees.rules import RESET, Rules, size_of
from refundtrees.trials import Trial, tried_out
from refundtrees.words import is_number_in


def spare_way(book, one, other):
    """The way in a plain book to a build that is smaller than the points: it gives back just what is too much."""
    if not is_plain(book):
        raise NoPlain(book)
    rules = Rules(book)
    mask, goal = mask_of_held(rules, one), mask_of_held(rules, other)
    if len(other) >= book.points:
        raise NoBuild(other)
    way = []
    while mask != goal:
        bit = spare_bit(rules, mask, goal)
        way.append(rules.step_of_bit(mask, bit))
        mask = rules.behind_bit(mask, bit)
    return way


def spare_bit(rules, mask, goal):
    """The bit of the next step of a spare way between two unlike masks."""
    too_much = [bit for bit in rules.bits if mask & bit and not goal & bit]
    missing = [bit for bit in rules.bits if goal & bit and not mask & bit]
    if size_of(mask) > size_of(goal) or not missing:
        return too_much[-1]
    return missing[0]


def is_way(book, one, way):
    """Whether any value is a list or tuple of steps that is a way from a build that holds."""
    rules = Rules(book)
    start = mask_of_held(rules, one)
    try:
        hops_of(rules, start, way)
    except NoWay:
        return False
    return True


def way_price(book, one, way):
    """The price of a way from a build that holds."""
    rules = Rules(book)
    return price_of_hops(rules, hops_of(rules, mask_of_held(rules, one), way))


def way_end(book, one, way):
    """The build behind a way from a build that holds."""
    rules = Rules(book)
    start = mask_of_held(rules, one)
    return rules.build_of_mask(end_of_hops(rules, start, hops_of(rules, start, way)))


def way_back(book, one, way):
    """The way that goes back from the end of a way without a reset, step by step."""
    rules = Rules(book)
    hops = hops_of(rules, mask_of_held(rules, one), way, can_reset=False)
    return [rules.step_of_bit(rules.behind_bit(mask, bit), bit) for mask, bit in hops[::-1]]


def hops_of(rules, start, way, can_reset=True):
    """The steps of any value that is a way from a mask, each as (mask ahead of it, bit); raises NoWay."""
    if not isinstance(way, (list, tuple)):
        raise NoWay(None)
    hops = []
    mask = start
    for index, step in enumerate(way):
        bit = rules.bit_of_step(mask, step)
        if bit is None or (bit == RESET and not can_reset):
            raise NoWay(index)
        hops.append((mask, bit))
        mask = rules.behind_bit(mask, bit)
    return hops


def price_of_hops(rules, hops):
    """The price of the steps of a way."""
    return sum([rules.price_of_bit(mask, bit) for mask, bit in hops])


def end_of_hops(rules, start, hops):
    """The mask behind the steps of a way from a mask."""
    if not hops:
        return start
    mask, bit = hops[-1]
    return rules.behind_bit(mask, bit)


class Walk:
    """A way that is played, step by step, from a build that holds."""

    def __init__(self, book, build=()):
        rules = Rules(book)
        self._start = mask_of_held(rules, build)
        self._rules = rules
        # The steps that were done, as hops_of tells them. A tuple, and all that
        # ever changes: so a trial, or a twin, has to keep nothing else.
        self._state = ()

    def __call__(self, step):
        """Does a step, returns the build behind it."""
        mask = self._mask()
        bit = self._rules.bit_of_step(mask, step)
        if bit is None:
            raise NoStep(step)
        self._state = self._state + ((mask, bit),)
        return self.now()

    def __iadd__(self, other):
        self._state = self._state + tuple(hops_of(self._rules, self._mask(), other))
        return self

    def back(self, many=1):
        """Takes the last so many steps back."""
        if not is_number_in(many, 1, len(self._state)):
            raise NothingBack(many)
        self._state = self._state[:-many]

    def now(self):
        """The build behind the steps that were done."""
        return self._rules.build_of_mask(self._mask())

    def done(self):
        """The steps that were done."""
        return [self._rules.step_of_bit(mask, bit) for mask, bit in self._state]

    def listed(self):
        """The steps that were done."""
        return self.done()

    def cost(self):
        """The price of the steps that were done."""
        return price_of_hops(self._rules, self._state)

    def twin(self):
        """An equal walk that goes on by itself."""
        other = Walk(self._rules.book, self._rules.build_of_mask(self._start))
        other._state = self._state
        return other

    def trial(self):
        """For `with`: gives this walk, and takes back what was done in the block, unless it is kept."""
        return Trial(self)

    def trying(self, guest, *, kept=False):
        """What a guest returns that is called with this walk within a trial, which is kept if kept is True."""
        return tried_out(self, guest, kept)

    def _mask(self):
        return end_of_hops(self._rules, self._start, self._state)

    def __contains__(self, x):
        return self._rules.bit_of_step(self._mask(), x) is not None

    def __len__(self):
        return len(self._state)

    def __eq__(self, other):
        if not isinstance(other, Walk) or self._rules.book != other._rules.book:
            return False
        return self._start == other._start and self._state == other._state
