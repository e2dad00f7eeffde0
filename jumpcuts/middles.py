"""Films between two, the game with several films, and the game turned round."""

from jumpcuts.checks import LETTERS, check_film, check_films, check_length
from jumpcuts.cuts import next_films
from jumpcuts.graphs import counts_by_size, outcome_graph
from jumpcuts.joints import before_graph, common_graph, count_common_words
from jumpcuts.numbers import fewest_cuts
from jumpcuts.order import least_missing, nim_numbers
from jumpcuts.partings import comes_to
from jumpcuts.tallies import check_size_and_many, films_of_size, tally
from jumpcuts.ways import MOST_FOR_WAYS, ways_from

MOST_OF_GOAL = 12


def count_between(film, goal):
    """How many films come of a film and to a goal, both ends included."""
    check_film(film)
    check_film(goal)
    check_length(goal, MOST_OF_GOAL)
    return count_common_words(outcome_graph(film), before_graph(goal, len(LETTERS)))


def between_lengths(film, goal):
    """The rising tuple of the pairs of a length and how many films between a film and a goal have it."""
    check_film(film)
    check_film(goal)
    check_length(goal, MOST_OF_GOAL)
    graph = common_graph(outcome_graph(film), before_graph(goal, len(LETTERS)))
    counts = counts_by_size(graph, len(film))
    return tuple([(before + 1, many) for before, many in enumerate(counts) if many > 0])


def is_between(film, middle, goal):
    """Tell whether a film comes to a second one and this to a goal."""
    check_film(film)
    check_film(middle)
    check_film(goal)
    return comes_to(film, middle) and comes_to(middle, goal)


def one_cut_off(film, goal):
    """Tell whether one cut makes a goal of a film."""
    check_film(film)
    check_film(goal)
    return fewest_cuts(film, goal) == 1


def check_short_films(films):
    """Raise an error for what are no films of which each can be played."""
    check_films(films)
    for film in films:
        check_length(film, MOST_FOR_WAYS)


def nim_together(numbers):
    """The nim number of some games together, of which one is played in each turn."""
    together = 0
    for number in numbers:
        together = together ^ number
    return together


def nim_of_all(films):
    """The nim number of several films together."""
    check_short_films(films)
    return nim_together([nim_numbers(film)[film] for film in films])


def winning_cuts(films):
    """The ascending tuple of the pairs of a film's index and what one cut makes of it so that all together have 0."""
    check_short_films(films)
    tables = [nim_numbers(film) for film in films]
    together = nim_together([table[each] for table, each in zip(tables, films)])
    found = []
    for index, film in enumerate(films):
        nims = tables[index]
        others = together ^ nims[film]
        found.extend([(index, after) for after in next_films(film) if nims[after] == others])
    return tuple(found)


def turned_wins(film):
    """Tell whether who is to cut wins if who finds no cut wins."""
    check_film(film)
    check_length(film, MOST_FOR_WAYS)
    ways = ways_from(film)
    winning = {}
    for each in reversed(list(ways)):
        winning[each] = not ways[each] or not all([winning[after] for after in ways[each]])
    return winning[film]


def first_missing(film):
    """The least integer from 0 on that is the nim number of no outcome of a film."""
    check_film(film)
    check_length(film, MOST_FOR_WAYS)
    return least_missing(list(nim_numbers(film).values()))


def nim_counts(size, many):
    """The rising tuple of the pairs of a nim number and how many films of a size have it."""
    check_size_and_many(size, many)
    nims = {}
    for letters in range(1, size + 1):
        for film in films_of_size(letters, many):
            nims[film] = least_missing([nims[after] for after in next_films(film)])
    return tally([number for film, number in nims.items() if len(film) == size])
