"""Which numbers of cuts make one letter of a block.

A set of numbers from 0 on is told here by an integer: the bit of worth 2 ** n is set if n is in it.

At each time each letter that is left stands for a block of the film that begins and ends with
it, and a cut joins some neighboring blocks into one. Of the blocks that the last cut of a block
joins, the last one may be taken to be a single letter: if it was joined itself, joining its
first part to the first block of all, and then its rest to that, takes as many cuts.
"""

from jumpcuts.partings import places_from


def sums(one, other):
    """The set of the sums of a number of one set and a number of another."""
    found = 0
    for number in numbers_of(one):
        found |= other << number
    return found


def numbers_of(found):
    """The rising list of the numbers of a set."""
    return [number for number in range(found.bit_length()) if found >> number & 1]


def least_of(found):
    """The least number of a set, None if it is empty."""
    return min(numbers_of(found), default=None)


def greatest_of(found):
    """The greatest number of a set, None if it is empty."""
    return max(numbers_of(found), default=None)


def fill_block(film, first, joined, between):
    """Set joined[last], for all last places, to the set for the block from first to last."""
    likes = places_from(film, film[first], first)
    joined[first] = 1
    for last in likes[1:]:
        for middle in likes:
            if middle < last:
                joined[last] |= sums(joined[middle], between[middle + 1][last]) << 1


def fill_between(film, first, joined, between):
    """Set between[first][stop] to the set for all ways to part film[first:stop] into blocks."""
    for last in places_from(film, film[first], first):
        for stop in range(last + 1, len(film) + 1):
            between[first][stop] |= sums(joined[last], between[last + 1][stop])


def empty_between(size):
    """The table for fill_between as it is for nothing between: no cuts."""
    table = [[0] * (size + 1) for _ in range(size + 1)]
    for place in range(size + 1):
        table[place][place] = 1
    return table


def any_joins(film):
    """The sets for all blocks, and for all ways to part what stands between two places.

    The item [first][last] of the first table is the set of all numbers of cuts that make one
    letter of the block, the item [first][stop] of the second one that of all numbers of cuts
    that make one letter each of any blocks into which film[first:stop] is parted.
    """
    size = len(film)
    joined = [[0] * size for _ in range(size)]
    between = empty_between(size)
    for first in reversed(range(size)):
        fill_block(film, first, joined[first], between)
        fill_between(film, first, joined[first], between)
    return joined, between


def tight_joins(film):
    """The sets for all blocks as any_joins tells them, for tight cuts alone."""
    size = len(film)
    joined = [[0] * size for _ in range(size)]
    # No block between may have become the letter that is joined, so there is a table for
    # each letter, of the ways that have no block of it.
    letters = sorted(set(film))
    tables = {letter: empty_between(size) for letter in letters}
    for first in reversed(range(size)):
        fill_block(film, first, joined[first], tables[film[first]])
        for letter in letters:
            if letter != film[first]:
                fill_between(film, first, joined[first], tables[letter])
    return joined


def numbers_for_goal(film, goal, joined):
    """The set of all sums of a number for each block, over all partings of a film for a goal."""
    behind = [0] * len(film) + [1]
    for letter in reversed(goal):
        found = [0] * (len(film) + 1)
        for start in places_from(film, letter, 0):
            for end in places_from(film, letter, start):
                found[start] |= sums(joined[start][end], behind[end + 1])
        behind = found
    return behind[0]
