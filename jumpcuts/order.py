"""Rows of cuts counted, the order of the outcomes, and the game of two players."""

from jumpcuts.checks import check_film, check_length, check_number
from jumpcuts.graphs import outcome_graph, words_of
from jumpcuts.partings import comes_to
from jumpcuts.tight import tight_next
from jumpcuts.ways import MOST_FOR_WAYS, ways_from


def rows_by_number(film):
    """By numbers of cuts, as far as there are rows of so many, by outcomes, how many rows lead to them."""
    ways = ways_from(film)
    rows = []
    now = {film: 1}
    while now:
        rows.append(now)
        then = {}
        for each, many in now.items():
            for after, cuts_there in ways[each].items():
                then[after] = then.get(after, 0) + many * cuts_there
        now = then
    return rows


def row_numbers(film, goal):
    """The rising tuple of the pairs of a number of cuts and how many rows of so many lead from a film to a goal."""
    check_film(film)
    check_film(goal)
    check_length(film, MOST_FOR_WAYS)
    return tuple([(number, rows[goal]) for number, rows in enumerate(rows_by_number(film)) if goal in rows])


def count_rows(film, goal):
    """How many rows of cuts lead from a film to a goal."""
    return sum([many for _, many in row_numbers(film, goal)])


def count_all_rows(film, steps):
    """How many rows of so many cuts a film has."""
    check_film(film)
    check_number(steps, 0, MOST_FOR_WAYS)
    check_length(film, MOST_FOR_WAYS)
    rows = rows_by_number(film)
    return sum(rows[steps].values()) if steps < len(rows) else 0


def order_height(film):
    """The greatest number of cuts of a row."""
    check_film(film)
    check_length(film, MOST_FOR_WAYS)
    return len(rows_by_number(film)) - 1


def covers(film):
    """The list, by the alphabet, of the outcomes below a film with no outcome between the film and them."""
    check_film(film)
    found = []
    # Each outcome comes by tight cuts, so one with none between comes by a single tight cut, and
    # one that has others between has one of those found ahead of it, as they are longer.
    for each in sorted(tight_next(film), key=len, reverse=True):
        if not any([comes_to(other, each) for other in found]):
            found.append(each)
    return sorted(found)


def outcomes_between(film, goal):
    """The list, by the alphabet, of the outcomes of a short film that come to a goal, both known to be films."""
    return [each for each in words_of(outcome_graph(film)) if comes_to(each, goal)]


def between(film, goal):
    """The list, by the alphabet, of the outcomes of a film that come to a goal."""
    check_film(film)
    check_film(goal)
    check_length(film, MOST_FOR_WAYS)
    return outcomes_between(film, goal)


def sign_sum(film, goal):
    """The number of a goal such that it is 1 for the film, and the sum over all between is 0 for other outcomes."""
    check_film(film)
    check_film(goal)
    check_length(film, MOST_FOR_WAYS)
    signs = {film: 1}
    for each in sorted(outcomes_between(film, goal), key=len, reverse=True):
        if each != film:
            total = sum([sign for other, sign in signs.items() if comes_to(other, each)])
            signs[each] = -total
    return signs.get(goal, 0)


def least_missing(numbers):
    """The least integer from 0 on that is none of some numbers."""
    least = 0
    while least in numbers:
        least += 1
    return least


def nim_numbers(film):
    """By the outcomes of a film, the shortest ones first, their nim numbers."""
    ways = ways_from(film)
    nims = {}
    for each in reversed(list(ways)):
        nims[each] = least_missing([nims[after] for after in ways[each]])
    return nims


def nim(film):
    """The nim number of a film."""
    check_film(film)
    check_length(film, MOST_FOR_WAYS)
    return nim_numbers(film)[film]


def wins(film):
    """Tell whether who is to cut wins."""
    return nim(film) != 0


def winning_films(film):
    """The list, by the alphabet, of the films with the nim number 0 that one cut makes."""
    check_film(film)
    check_length(film, MOST_FOR_WAYS)
    nims = nim_numbers(film)
    return sorted([after for after in ways_from(film)[film] if nims[after] == 0])


def game_lengths(film):
    """The pair of the fewest and the most cuts that a game can have."""
    check_film(film)
    check_length(film, MOST_FOR_WAYS)
    ways = ways_from(film)
    fewest = {}
    most = {}
    for each in reversed(list(ways)):
        fewest[each] = min([fewest[after] + 1 for after in ways[each]], default=0)
        most[each] = max([most[after] + 1 for after in ways[each]], default=0)
    return (fewest[film], most[film])
