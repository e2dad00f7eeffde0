"""Sets of words, told by graphs.

A graph has nodes, of which node 0 is the first one, and arrows between nodes, each with a
letter, no two from one node with the same letter. Some of its nodes are ends. Its words are
those whose letters lead, arrow by arrow, from node 0 to an end.

Where nothing else is said, a graph has no rings: each arrow leads to a node of a greater number,
so that whoever goes through the nodes in order is done with all that lead to a node ahead of it.
"""

from jumpcuts.errors import TooLong

MOST_LISTED = 5000


class Graph:
    """arrows has for each node a dict, by rising letters, of the nodes behind; ends tells which nodes are ends."""

    def __init__(self, arrows, ends):
        self.arrows = arrows
        self.ends = ends


def outcome_graph(film):
    """The graph of the outcomes of a film.

    Node 0 has had no letter. Behind some first letters of an outcome it only matters where the
    block of the last one of them can begin first: at the place p for the node p + 1. From there
    the next block can begin wherever its letter stands behind this one's, side by side.
    """
    behind = {letter: {} for letter in film}
    arrows = []
    for place in reversed(range(len(film))):
        row = behind[film[place]]
        if place + 1 < len(film):
            row[film[place + 1]] = place + 2
        arrows.append({letter: row[letter] for letter in sorted(row)})
    arrows.append({film[0]: 1})
    arrows.reverse()
    return Graph(arrows, [False] + [letter == film[-1] for letter in film])


def with_letters(graph, letters):
    """The graph of those words, of a graph with rings or without, that have no letters but some."""
    rows = []
    for row in graph.arrows:
        rows.append({letter: after for letter, after in row.items() if letter in letters})
    return Graph(rows, graph.ends)


def counts_from(graph):
    """By nodes, how many words lead on from there to an end."""
    counts = [0] * len(graph.arrows)
    for node in reversed(range(len(graph.arrows))):
        counts[node] = sum([counts[after] for after in graph.arrows[node].values()])
        if graph.ends[node]:
            counts[node] += 1
    return counts


def count_words(graph):
    """How many words a graph has."""
    return counts_from(graph)[0]


def words_of(graph):
    """The list of the words of a graph, by the alphabet."""
    counts = counts_from(graph)
    words = []
    waiting = [(0, "")]
    while waiting:
        node, word = waiting.pop()
        if graph.ends[node]:
            words.append(word)
        for letter, after in reversed(list(graph.arrows[node].items())):
            if counts[after] > 0:
                waiting.append((after, word + letter))
    return words


def check_listed(many):
    """Raise TooLong for more words than may be listed."""
    if many > MOST_LISTED:
        raise TooLong(MOST_LISTED)


def listed(graph):
    """The list of the words of a graph, by the alphabet, if there are not too many for that."""
    check_listed(count_words(graph))
    return words_of(graph)


def word_at(graph, rank):
    """The word that so many stand ahead of, by the alphabet, None if there are not so many."""
    counts = counts_from(graph)
    if rank >= counts[0]:
        return None
    node = 0
    word = ""
    ahead = rank
    while ahead > 0 or not graph.ends[node]:
        if graph.ends[node]:
            ahead -= 1
        for letter, after in graph.arrows[node].items():
            if ahead < counts[after]:
                node = after
                word += letter
                break
            ahead -= counts[after]
    return word


def rank_in(graph, word):
    """How many words stand ahead of a word, by the alphabet, None if it is none of the graph."""
    counts = counts_from(graph)
    node = 0
    ahead = 0
    for letter in word:
        row = graph.arrows[node]
        if letter not in row:
            return None
        if graph.ends[node]:
            ahead += 1
        ahead += sum([counts[after] for other, after in row.items() if other < letter])
        node = row[letter]
    return ahead if graph.ends[node] else None


def best_from(graph, worths):
    """By nodes, the greatest sum of the letters' worths of a word from there to an end, None if there is none."""
    best = [None] * len(graph.arrows)
    for node in reversed(range(len(graph.arrows))):
        sums = [0] if graph.ends[node] else []
        for letter, after in graph.arrows[node].items():
            if best[after] is not None:
                sums.append(worths[letter] + best[after])
        best[node] = max(sums, default=None)
    return best


def best_word(graph, worths):
    """The first word, by the alphabet, of the greatest sum of its letters' worths, None if there are no words."""
    best = best_from(graph, worths)
    if best[0] is None:
        return None
    node = 0
    word = ""
    while best[node] != 0 or not graph.ends[node]:
        for letter, after in graph.arrows[node].items():
            if best[after] is not None and worths[letter] + best[after] == best[node]:
                node = after
                word += letter
                break
    return word


def numbers_of_arrows(targets):
    """The list of the pairs of a node and how often it is among the targets of some arrows."""
    return [(node, targets.count(node)) for node in sorted(set(targets))]


def counts_by_size(graph, size):
    """The list of how many words of 1, 2, .. size letters a graph has, one with rings or without."""
    counts = []
    now = [0] * len(graph.arrows)
    now[0] = 1
    moves = [numbers_of_arrows(list(row.values())) for row in graph.arrows]
    for _ in range(size):
        then = [0] * len(now)
        for node, many in enumerate(now):
            if many > 0:
                for after, times in moves[node]:
                    then[after] += many * times
        now = then
        counts.append(sum([many for node, many in enumerate(now) if graph.ends[node]]))
    return counts


def counts_by_state(graph, first, move):
    """By states, how many words end with them: from the first one, move(state, letter) is that behind a letter."""
    table = [{} for _ in graph.arrows]
    table[0][first] = 1
    found = {}
    for node, row in enumerate(graph.arrows):
        here = list(table[node].items())
        if graph.ends[node]:
            for state, many in here:
                found[state] = found.get(state, 0) + many
        for letter, after in row.items():
            for state, many in here:
                then = move(state, letter)
                table[after][then] = table[after].get(then, 0) + many
    return found
