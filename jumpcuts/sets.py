"""Outcomes by their letters, those without some letters, and those that agree with a wish."""

from jumpcuts.checks import LETTERS, check_film, check_letter, check_letters
from jumpcuts.graphs import best_from, best_word, counts_by_state, outcome_graph, rank_in, with_letters, word_at


def one_more(had, letter):
    """The letters had so far, by the alphabet, and one more."""
    return had if letter in had else "".join(sorted(had + letter))


def counts_by_letters(film):
    """By strings of letters, each once, by the alphabet, how many outcomes have just these letters."""
    return counts_by_state(outcome_graph(film), "", one_more)


def by_letters(film):
    """The tuple of the pairs of a string of letters and how many outcomes have just these, if there are any."""
    check_film(film)
    return tuple(sorted(list(counts_by_letters(film).items())))


def count_just(film, letters):
    """How many outcomes have just told letters."""
    check_film(film)
    check_letters(letters)
    return counts_by_letters(film).get(letters, 0)


def best_without(film, letters, worth):
    """The first outcome, by the alphabet, without some letters, of the greatest sum of a worth of each letter."""
    kept = [letter for letter in LETTERS if letter not in letters]
    return best_word(with_letters(outcome_graph(film), kept), {letter: worth for letter in kept})


def shortest_without(film, letters):
    """The first one, by the alphabet, of the shortest outcomes that have none of told letters, None if none do."""
    check_film(film)
    check_letters(letters)
    return best_without(film, letters, -1)


def longest_without(film, letters):
    """The first one, by the alphabet, of the longest outcomes that have none of told letters, None if none do."""
    check_film(film)
    check_letters(letters)
    return best_without(film, letters, 1)


def letter_range(film, letter):
    """The pair of the fewest and the most times that an outcome has a letter."""
    check_film(film)
    check_letter(letter)
    graph = outcome_graph(film)
    once = {sign: 1 if sign == letter else 0 for sign in LETTERS}
    fewest = -best_from(graph, {sign: -times for sign, times in once.items()})[0]
    return (fewest, best_from(graph, once)[0])


def agreed_with_first(letter, behind, wish):
    """By places of a wish, how many of its letters from there on can be left of a letter and what is behind it.

    behind tells the same for what is behind it alone.
    """
    agreed = [behind[-1]]
    with_this = 0
    for place in reversed(range(len(wish))):
        if wish[place] == letter:
            with_this = behind[place + 1] + 1
        agreed.append(max(behind[place], with_this))
    agreed.reverse()
    return agreed


def agreed_behind(graph, wish):
    """By nodes, by places of a wish, how many of its letters from there on can be left of a word on at most.

    From each node of the graph some word must lead on to an end.
    """
    table = [[0] * (len(wish) + 1) for _ in graph.arrows]
    for node in reversed(range(len(graph.arrows))):
        for letter, after in graph.arrows[node].items():
            agreed = agreed_with_first(letter, table[after], wish)
            table[node] = [max(x, y) for x, y in zip(table[node], agreed)]
    return table


def agreed_with_last(ahead, letter, wish):
    """By numbers of first letters of a wish, how many of them can be left of some letters and a last one.

    ahead tells the same for the letters without the last one.
    """
    agreed = [0]
    for place, sign in enumerate(wish):
        agreed.append(ahead[place] + 1 if sign == letter else max(agreed[-1], ahead[place + 1]))
    return agreed


def agreement(film, wish):
    """The pair of how many letters a wish and an outcome can at most be left with in common, and the first such one."""
    check_film(film)
    check_film(wish)
    graph = outcome_graph(film)
    behind = agreed_behind(graph, wish)
    most = behind[0][0]
    ahead = [0] * (len(wish) + 1)
    node = 0
    word = ""
    while ahead[-1] < most or not graph.ends[node]:
        for letter, after in graph.arrows[node].items():
            agreed = agreed_with_last(ahead, letter, wish)
            if max([x + y for x, y in zip(agreed, behind[after])]) == most:
                ahead = agreed
                node = after
                word += letter
                break
    return (most, word)


def next_outcome(film, goal):
    """The outcome behind an outcome by the alphabet, None for the last one and for a film that is none."""
    check_film(film)
    check_film(goal)
    graph = outcome_graph(film)
    rank = rank_in(graph, goal)
    return None if rank is None else word_at(graph, rank + 1)
