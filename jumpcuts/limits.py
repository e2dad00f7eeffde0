"""Partings by the lengths and numbers of their blocks, and cuts that have prices."""

from jumpcuts.checks import check_film, check_length, check_number
from jumpcuts.cuts import behind_cut, cuts
from jumpcuts.errors import BadNumber
from jumpcuts.partings import comes_to, earliest_starts

MOST_FOR_PRICES = 12
GREATEST_PRICE = 1000


def added(one, other):
    """The sums, index by index, of two lists of numbers."""
    shorter, longer = (one, other) if len(one) < len(other) else (other, one)
    return [x + y for x, y in zip(shorter, longer)] + longer[len(shorter):]


def numbers_of_block(film, letter, behind):
    """By places, the list of how many partings that begin with a block of a letter have 0, 1, .. longer blocks.

    behind tells the same for the letters behind this one.
    """
    numbers = [[] for _ in range(len(film) + 1)]
    longer = []
    for place in reversed(range(len(film))):
        if film[place] == letter:
            alone = behind[place + 1]
            numbers[place] = added(alone, longer)
            if alone:
                longer = added(longer, [0] + alone)
    return numbers


def partings_by_cuts(film, goal):
    """The tuple of how many partings have 0, 1, 2, .. blocks of more than one letter."""
    check_film(film)
    check_film(goal)
    behind = [[] for _ in film] + [[1]]
    for letter in reversed(goal):
        behind = numbers_of_block(film, letter, behind)
    return tuple(behind[0])


def stops_of_block(film, letter, starts, most):
    """By places, whether a block of a letter, of at most so many letters, can stop ahead of there.

    starts tells by places whether the block can begin there.
    """
    stops = [False] * (len(film) + 1)
    latest = None
    for place, sign in enumerate(film):
        if sign == letter:
            if starts[place]:
                latest = place
            # The latest start makes the shortest block, so the others need no look.
            stops[place + 1] = latest is not None and place - latest < most
    return stops


def parts_within(film, goal, most):
    """Tell whether a film has a parting for a goal whose blocks have at most so many letters each."""
    starts = [True] + [False] * len(film)
    for letter in goal:
        starts = stops_of_block(film, letter, starts, most)
    return starts[-1]


def block_spans(film, goal):
    """For each goal letter the first place where its block begins and the last where it ends, in any partings.

    There is a parting whose block has both, as what stands ahead of a block and what stands
    behind it are parted each for itself.
    """
    last = len(film) - 1
    starts = earliest_starts(film, goal)
    mirrored = earliest_starts(film[::-1], goal[::-1])
    stops = [last - place for place in reversed(mirrored)]
    return list(zip(starts, stops))


def comes_within(film, goal, most):
    """Tell whether a film has a parting for a goal whose blocks have at most so many letters each."""
    check_film(film)
    check_film(goal)
    check_number(most, 1, len(film))
    return parts_within(film, goal, most)


def evenest(film, goal):
    """How few letters the longest block of a parting has at least, None if there is no parting."""
    check_film(film)
    check_film(goal)
    if not comes_to(film, goal):
        return None
    low = 1
    high = len(film)
    while low < high:
        middle = (low + high) // 2
        if parts_within(film, goal, middle):
            high = middle
        else:
            low = middle + 1
    return low


def longest_block(film, goal):
    """How many letters a block of a parting has at most, None if there is no parting."""
    check_film(film)
    check_film(goal)
    if not comes_to(film, goal):
        return None
    return max([end - start + 1 for start, end in block_spans(film, goal)])


def kept_ends(film, goal):
    """The rising tuple of the places that end a block in all partings, None if there is no parting."""
    check_film(film)
    check_film(goal)
    if not comes_to(film, goal):
        return None
    within = {}
    for start, end in block_spans(film, goal):
        for place in range(start, end):
            within[place] = True
    return tuple([place for place in range(len(film)) if place not in within])


def check_prices(film, prices):
    """Raise BadNumber for a value that is no prices for the cuts of a film."""
    if not isinstance(prices, tuple) or len(prices) != len(film) - 1:
        raise BadNumber()
    for price in prices:
        check_number(price, 0, GREATEST_PRICE)


def cheapest_sums(film, prices):
    """By films that come of a film, the least sum of what the cuts of a row to them cost."""
    least = {film: 0}
    # A cut makes a film shorter, so the sums of the films of one length do not change any
    # more once the longer ones have had their turn.
    for size in range(len(film), 1, -1):
        now = [each for each in least if len(each) == size]
        for each in now:
            for pair in cuts(each):
                after = behind_cut(each, pair)
                total = least[each] + prices[pair[1] - pair[0] - 1]
                least[after] = min(total, least.get(after, total))
    return least


def cheapest(film, goal, prices):
    """The least sum of what the cuts of a row from a film to a goal cost, None if the film does not come to it."""
    check_film(film)
    check_film(goal)
    check_prices(film, prices)
    check_length(film, MOST_FOR_PRICES)
    return cheapest_sums(film, prices).get(goal, None)
