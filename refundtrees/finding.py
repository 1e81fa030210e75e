"""Finding ways over masks: which can be come to, and how cheapest ways to a goal begin."""

from heapq import heappop, heappush

from refundtrees.rules import RESET, sorted_masks


def come_to(rules, start, stop=None):
    """The masks that ways without a reset lead to from one that holds; only some if stop is among them."""
    held = {start: True}
    waiting = [start]
    while waiting and stop not in held:
        mask = waiting.pop()
        for near in masks_beside(rules, mask):
            if near not in held:
                held[near] = rules.is_good(near)
                if held[near]:
                    waiting.append(near)
    return [mask for mask in held if held[mask]]


def masks_beside(rules, mask):
    """The masks that have one skill more, and then those that have one less, whether they hold or not."""
    # In this order because the last one is looked at first: nearly always gives
    # alone lead to the empty mask, which is what is mostly looked for.
    more = [mask | bit for bit in rules.bits if not mask & bit]
    return more + [mask ^ bit for bit in rules.bits if mask & bit]


def grown_masks(rules):
    """The masks that takes alone lead to from the empty one."""
    grown = {0: True}
    for mask in rules.good_masks():
        if any([mask & bit and mask ^ bit in grown for bit in rules.bits]):
            grown[mask] = True
    return grown


def by_give_backs(rules, goal):
    """How the ways without a reset to a goal with the fewest give-backs begin."""
    # Where each give costs one, the price of a way is how many it has.
    return Leads(rules, goal, {bit: 1 for bit in rules.bits}, None)


class Leads:
    """How the cheapest ways to a goal begin, and of those the ones with the fewest steps."""

    def __init__(self, rules, goal, prices, reset):
        """Prices is a dict from the bits of skills to what giving them back is to cost; reset may be None."""
        self._rules = rules
        self._good = {mask: True for mask in rules.good_masks()}
        self._prices = prices
        self._reset = reset
        # From a mask to (price, how many steps, bit of the first step) of its way.
        self._begun = {}
        queue = [(0, 0, goal, RESET)]
        while queue:
            price, far, mask, bit = heappop(queue)
            if mask not in self._begun:
                self._begun[mask] = (price, far, bit)
                for more, ahead, step in self._steps_to(mask):
                    if ahead not in self._begun:
                        heappush(queue, (price + more, far + 1, ahead, step))

    def _steps_to(self, mask):
        """The steps that lead to a mask: (price, mask ahead of the step, bit)."""
        rows = []
        for bit in self._rules.bits:
            if mask ^ bit in self._good:
                rows.append((0 if mask & bit else self._prices[bit], mask ^ bit, bit))
        if mask == 0 and self._reset is not None:
            rows = rows + [(self._reset, ahead, RESET) for ahead in self._good if ahead]
        return rows

    def masks(self):
        """The masks from which a way leads to the goal, in the order of builds."""
        return sorted_masks(list(self._begun))

    def price_from(self, mask):
        """The least price of a way from a mask to the goal, or None."""
        return self._begun[mask][0] if mask in self._begun else None

    def is_within(self, mask, most):
        """Whether a way of at most such a price leads from a mask to the goal."""
        price = self.price_from(mask)
        return price is not None and price <= most

    def way_from(self, mask):
        """A cheapest way from a mask to the goal, or None."""
        if mask not in self._begun:
            return None
        way = []
        while self._begun[mask][1] > 0:
            bit = self._begun[mask][2]
            way.append(self._rules.step_of_bit(mask, bit))
            mask = self._rules.behind_bit(mask, bit)
        return way
