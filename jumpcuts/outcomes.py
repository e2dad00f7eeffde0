"""All outcomes of a film: how many there are, their order, the shortest and the last ones."""

from jumpcuts.checks import LETTERS, check_film, check_letters, check_number, check_rank
from jumpcuts.graphs import (
    best_word, count_words, counts_by_size, listed, outcome_graph, rank_in, with_letters, word_at,
)


def count_outcomes(film):
    """How many outcomes a film has."""
    check_film(film)
    return count_words(outcome_graph(film))


def outcomes(film):
    """The list, by the alphabet, of the outcomes of a film."""
    check_film(film)
    return listed(outcome_graph(film))


def outcome_at(film, rank):
    """The outcome that so many stand ahead of by the alphabet, None if there are not so many."""
    check_film(film)
    check_rank(rank)
    return word_at(outcome_graph(film), rank)


def rank_of(film, goal):
    """How many outcomes stand ahead of a goal by the alphabet, None if it is no outcome."""
    check_film(film)
    check_film(goal)
    return rank_in(outcome_graph(film), goal)


def lengths(film):
    """The tuple of how many outcomes have 1, 2, .. letters, up to those of the film."""
    check_film(film)
    return tuple(counts_by_size(outcome_graph(film), len(film)))


def count_of_length(film, size):
    """How many outcomes have so many letters."""
    check_film(film)
    check_number(size, 1, len(film))
    return counts_by_size(outcome_graph(film), size)[-1]


def count_with(film, letters):
    """How many outcomes have none but told letters."""
    check_film(film)
    check_letters(letters)
    return count_words(with_letters(outcome_graph(film), letters))


def shortest(film):
    """The first one, by the alphabet, of the shortest outcomes."""
    check_film(film)
    return best_word(outcome_graph(film), {letter: -1 for letter in LETTERS})


def shortest_length(film):
    """How many letters the shortest outcomes have."""
    return len(shortest(film))


def last_outcomes(film):
    """The list, by the alphabet, of the outcomes in which no letter stands twice."""
    check_film(film)
    graph = outcome_graph(film)
    found = []
    waiting = [(0, "")]
    while waiting:
        node, word = waiting.pop()
        if graph.ends[node]:
            found.append(word)
        for letter, after in reversed(list(graph.arrows[node].items())):
            if letter not in word:
                waiting.append((after, word + letter))
    return found


def always(film):
    """The letters that all outcomes have, by the alphabet."""
    check_film(film)
    graph = outcome_graph(film)
    needed = []
    for letter in sorted(set(film)):
        if count_words(with_letters(graph, LETTERS.replace(letter, ""))) == 0:
            needed.append(letter)
    return "".join(needed)
