"""Papers: reasons why a way is a cheapest one, or why none leads anywhere, and the checker that accepts them."""

from refundtrees.checks import is_held, mask_of_held
from refundtrees.errors import NoNote, NoWay
from refundtrees.finding import come_to
from refundtrees.notes import read_book, write_book
from refundtrees.parts import is_pair
from refundtrees.prices import cheapest
from refundtrees.rules import Rules, sorted_masks
from refundtrees.sparing import end_of_hops, hops_of, price_of_hops
from refundtrees.words import is_number


def way_paper(book, one, other):
    """The paper that tells a cheapest way; raises NoWay(None) if there is none."""
    rules = Rules(book)
    start, goal = mask_of_held(rules, one), mask_of_held(rules, other)
    leads = cheapest(rules, goal)
    way = leads.way_from(start)
    if way is None:
        raise NoWay(None)
    prices = {mask: leads.price_from(mask) for mask in closed_from(rules, start)}
    # Where no way leads to the goal there is none from there on either: any
    # number will do that is as great as those of the masks that lead there.
    most = max([price for price in list(prices.values()) if price is not None])
    numbers = [(rules.build_of_mask(mask), most if price is None else price) for mask, price in prices.items()]
    return ("way", write_book(book), rules.build_of_mask(start), rules.build_of_mask(goal), way, numbers)


def never_paper(book, one, other):
    """The paper that tells that no way leads there; raises NoWay(0) if there is one."""
    rules = Rules(book)
    start, goal = mask_of_held(rules, one), mask_of_held(rules, other)
    masks = closed_from(rules, start)
    if goal in masks:
        raise NoWay(0)
    builds = [rules.build_of_mask(mask) for mask in masks]
    return ("never", write_book(book), rules.build_of_mask(start), rules.build_of_mask(goal), builds)


def paper_of(book, one, other):
    """The one of the two papers that there is."""
    try:
        return way_paper(book, one, other)
    except NoWay:
        return never_paper(book, one, other)


def closed_from(rules, start):
    """The masks that ways lead to from one that holds, resets let, in the order of builds."""
    masks = come_to(rules, start)
    if rules.book.reset is not None and 0 not in masks:
        masks = masks + come_to(rules, 0)
    return sorted_masks(masks)


def accepts(paper):
    """Whether any value is a paper that is right."""
    if not isinstance(paper, tuple) or len(paper) < 2 or not isinstance(paper[0], str):
        return False
    try:
        rules = Rules(read_book(paper[1]))
    except NoNote:
        return False
    if (paper[0], len(paper)) not in (("way", 6), ("never", 5)) or not are_held(rules, list(paper[2:4])):
        return False
    start, goal = rules.mask_of(paper[2]), rules.mask_of(paper[3])
    if paper[0] == "never":
        return is_closed_without(rules, start, goal, paper[4])
    return is_cheapest(rules, start, goal, paper[4], paper[5])


def are_held(rules, value):
    """Whether any value is a list of builds that hold."""
    return isinstance(value, list) and all([is_held(rules, build) for build in value])


def is_closed_without(rules, start, goal, builds):
    """Whether any value is builds, a start among them and a goal not, that no step leads out of."""
    if not are_held(rules, builds):
        return False
    masks = {rules.mask_of(build): True for build in builds}
    return start in masks and goal not in masks and all([leads_into(rules, mask, masks) for mask in masks])


def leads_into(rules, mask, masks):
    """Whether each step of a mask leads to one of some masks."""
    return all([rules.behind_bit(mask, bit) in masks for bit in rules.bits_at(mask)])


def is_cheapest(rules, start, goal, way, numbers):
    """Whether any two values are a way from a start to a goal, and numbers that show that none is cheaper."""
    if not isinstance(way, list) or not are_numbers(rules, numbers):
        return False
    try:
        hops = hops_of(rules, start, way)
    except NoWay:
        return False
    told = {rules.mask_of(build): number for build, number in numbers}
    if len(told) != len(numbers) or end_of_hops(rules, start, hops) != goal:
        return False
    if start not in told or goal not in told or (told[start], told[goal]) != (price_of_hops(rules, hops), 0):
        return False
    return all([falls_no_faster(rules, mask, told) for mask in told])


def are_numbers(rules, value):
    """Whether any value is a list of pairs of a build that holds and a number."""
    return isinstance(value, list) and all([
        is_pair(row) and is_held(rules, row[0]) and is_number(row[1]) for row in value
    ])


def falls_no_faster(rules, mask, told):
    """Whether each step of a mask leads to a mask with a number, less by no more than the step's price."""
    if not leads_into(rules, mask, told):
        return False
    return all([
        rules.price_of_bit(mask, bit) + told[rules.behind_bit(mask, bit)] >= told[mask] for bit in rules.bits_at(mask)
    ])
