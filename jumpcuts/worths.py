"""Worths of the outcomes of a film, and how many of them begin, end or go on in told ways."""

from jumpcuts.checks import LETTERS, check_film, check_letter, check_number
from jumpcuts.errors import BadNumber
from jumpcuts.graphs import Graph, best_word, count_words, counts_by_state, counts_from, outcome_graph

GREATEST_WEIGHT = 1000


def check_weights(value):
    """Raise BadNumber for a value that is no weights of the eight letters."""
    if not isinstance(value, tuple) or len(value) != len(LETTERS):
        raise BadNumber()
    for weight in value:
        check_number(weight, -GREATEST_WEIGHT, GREATEST_WEIGHT)


def sum_of_weights(film, weights):
    """The sum of the weights of the letters of a film."""
    return sum([weights[LETTERS.find(letter)] for letter in film])


def worth(film, weights):
    """The worth of a film."""
    check_film(film)
    check_weights(weights)
    return sum_of_weights(film, weights)


def greatest_worth(film, weights):
    """The pair of the greatest worth of an outcome and of the first outcome, by the alphabet, that has it."""
    check_film(film)
    check_weights(weights)
    goal = best_word(outcome_graph(film), dict(zip(LETTERS, weights)))
    return (sum_of_weights(goal, weights), goal)


def least_worth(film, weights):
    """The pair of the least worth of an outcome and of the first outcome, by the alphabet, that has it."""
    check_film(film)
    check_weights(weights)
    negated = {letter: -weight for letter, weight in zip(LETTERS, weights)}
    goal = best_word(outcome_graph(film), negated)
    return (sum_of_weights(goal, weights), goal)


def counted_beginning(film, word):
    """How many outcomes begin with a word, both known to be films."""
    graph = outcome_graph(film)
    node = 0
    for letter in word:
        if letter not in graph.arrows[node]:
            return 0
        node = graph.arrows[node][letter]
    return counts_from(graph)[node]


def count_beginning(film, word):
    """How many outcomes begin with a word."""
    check_film(film)
    check_film(word)
    return counted_beginning(film, word)


def count_ending(film, word):
    """How many outcomes end with a word."""
    check_film(film)
    check_film(word)
    # A parting read backward is one of the film read backward for the goal read backward.
    return counted_beginning(film[::-1], word[::-1])


def matches(word):
    """By how many first letters of a word came last, by the letter that comes next, how many did then.

    Once the whole word came, it counts as having come last for ever.
    """
    rows = [{letter: 0 for letter in LETTERS}]
    rows[0][word[0]] = 1
    # If the next letter does not go on with the word, fewer first letters of it may have come
    # last: it then goes on as behind the same letters without the first one of them.
    shorter = 0
    for at in range(1, len(word)):
        row = dict(rows[shorter])
        row[word[at]] = at + 1
        shorter = rows[shorter][word[at]]
        rows.append(row)
    rows.append({letter: len(word) for letter in LETTERS})
    return rows


def count_holding(film, word):
    """How many outcomes hold a word with its letters side by side."""
    check_film(film)
    check_film(word)
    rows = matches(word)
    counts = counts_by_state(outcome_graph(film), 0, lambda stand, letter: rows[stand][letter])
    return counts.get(len(word), 0)


def count_unlike(film):
    """How many outcomes have no two like letters side by side."""
    check_film(film)
    graph = outcome_graph(film)
    rows = [graph.arrows[0]]
    # The node behind a place has just had the letter of this place.
    for last, row in zip(film, graph.arrows[1:]):
        rows.append({letter: after for letter, after in row.items() if letter != last})
    return count_words(Graph(rows, graph.ends))


def count_letters(film, letter, times):
    """How many outcomes have a letter just so many times."""
    check_film(film)
    check_letter(letter)
    check_number(times, 0, len(film))
    counts = counts_by_state(outcome_graph(film), 0, lambda had, sign: had + 1 if sign == letter else had)
    return counts.get(times, 0)
