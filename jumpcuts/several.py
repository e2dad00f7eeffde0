"""What several films have in common, what comes to several goals, and the places with like futures."""

from jumpcuts.checks import LETTERS, check_film, check_films, check_length, check_number
from jumpcuts.graphs import check_listed, counts_by_size, outcome_graph, words_of
from jumpcuts.joints import (
    before_graph, common_graph, count_common_words, first_shortest, merged, same_words_on,
)

MOST_OF_GOAL = 12
MOST_OF_SIZE = 60


def two_graphs(films):
    """Two graphs whose common words are the films that come of all of some films."""
    first = outcome_graph(films[0])
    # The graph of the common words of all may be large, so it is not made for the last film.
    for film in films[1:-1]:
        first = merged(common_graph(first, outcome_graph(film)))
    return first, outcome_graph(films[-1])


def count_all_common(films):
    """How many films come of all of some films."""
    check_films(films)
    one, other = two_graphs(films)
    return count_common_words(one, other)


def all_common(films):
    """The list, by the alphabet, of the films that come of all of some films."""
    check_films(films)
    one, other = two_graphs(films)
    many = count_common_words(one, other)
    check_listed(many)
    # Where there are no such films, the graph may be large all the same.
    return words_of(common_graph(one, other)) if many > 0 else []


def shortest_all_common(films):
    """The first one, by the alphabet, of the shortest films that come of all of some films, None if there are none."""
    check_films(films)
    one, other = two_graphs(films)
    return first_shortest(one, other)


def count_befores_of_all(goals, size, many):
    """How many films of so many letters, of the first many ones, come to all of some goals."""
    check_films(goals)
    check_number(size, 1, MOST_OF_SIZE)
    check_number(many, 1, len(LETTERS))
    for goal in goals:
        check_length(goal, MOST_OF_GOAL)
    graph = before_graph(goals[0], many)
    for goal in goals[1:]:
        graph = common_graph(graph, before_graph(goal, many))
    return counts_by_size(graph, size)[-1]


def futures(film):
    """The ascending tuple of the rising tuples of all places of a film at which it has the same tails."""
    check_film(film)
    # The node of the graph behind a place has had its letter, so just the tails lead on from it.
    numbers = same_words_on(outcome_graph(film))[1:]
    alike = {}
    for place, number in enumerate(numbers):
        alike.setdefault(number, []).append(place)
    return tuple(sorted([tuple(each) for each in alike.values()]))
