"""The outcomes of a short film with the cuts that lead from each to others."""

from jumpcuts.cuts import behind_cut, cuts
from jumpcuts.graphs import outcome_graph, words_of

MOST_FOR_WAYS = 14


def numbers_of_cuts(film):
    """By the films that one cut makes of a film, how many cuts do so."""
    numbers = {}
    for pair in cuts(film):
        after = behind_cut(film, pair)
        numbers[after] = numbers.get(after, 0) + 1
    return numbers


def ways_from(film):
    """By the outcomes of a film, the longest ones first, their numbers_of_cuts."""
    return {each: numbers_of_cuts(each) for each in sorted(words_of(outcome_graph(film)), key=len, reverse=True)}
