"""Films that come to a goal, and films that come of both of two."""

from jumpcuts.checks import LETTERS, MOST_LETTERS, check_film, check_length, check_number
from jumpcuts.graphs import best_word, counts_by_size, listed, outcome_graph
from jumpcuts.joints import before_graph, common_graph, count_common_words, first_shortest, unrolled

MOST_OF_GOAL = 12
MOST_FOR_LIST = 12


def counts_of_befores(goal, size, many):
    """The list of how many films of 1, 2, .. size letters, of the first many ones, come to a goal."""
    check_film(goal)
    check_number(size, 1, MOST_LETTERS)
    check_number(many, 1, len(LETTERS))
    check_length(goal, MOST_OF_GOAL)
    return counts_by_size(before_graph(goal, many), size)


def count_befores(goal, size, many):
    """How many films of so many letters, of the first many ones, come to a goal."""
    return counts_of_befores(goal, size, many)[-1]


def befores_to(goal, size, many):
    """The tuple of how many films of 1, 2, .. size letters, of the first many ones, come to a goal."""
    return tuple(counts_of_befores(goal, size, many))


def befores(goal, size, many):
    """The list, by the alphabet, of the films of so many letters, of the first many ones, that come to a goal."""
    check_film(goal)
    check_number(size, 1, MOST_FOR_LIST)
    check_number(many, 1, len(LETTERS))
    check_length(goal, MOST_OF_GOAL)
    return listed(unrolled(before_graph(goal, many), size))


def shortest_before(one, other):
    """The first one, by the alphabet, of the shortest films that come to both of two, None if there are none."""
    check_film(one)
    check_film(other)
    check_length(one, MOST_OF_GOAL)
    check_length(other, MOST_OF_GOAL)
    return first_shortest(before_graph(one, len(LETTERS)), before_graph(other, len(LETTERS)))


def count_common(one, other):
    """How many films come of both of two."""
    check_film(one)
    check_film(other)
    return count_common_words(outcome_graph(one), outcome_graph(other))


def common(one, other):
    """The list, by the alphabet, of the films that come of both of two."""
    check_film(one)
    check_film(other)
    return listed(common_graph(outcome_graph(one), outcome_graph(other)))


def meets(one, other):
    """Tell whether any films come of both of two."""
    return count_common(one, other) > 0


def longest_common(one, other):
    """The first one, by the alphabet, of the longest films that come of both of two, None if there are none."""
    check_film(one)
    check_film(other)
    graph = common_graph(outcome_graph(one), outcome_graph(other))
    return best_word(graph, {letter: 1 for letter in LETTERS})
