"""Words that graphs have in common, and the films that come to a goal as a graph."""

from jumpcuts.checks import LETTERS
from jumpcuts.graphs import Graph, with_letters


def joint_rows(one, other):
    """By pairs of nodes to which some word leads in two graphs, by letters, the pairs behind them.

    A pair is told by the number left * wide + right, wide being how many nodes the other graph has.
    """
    wide = len(other.arrows)
    rows = {0: {}}
    waiting = [0]
    while waiting:
        pair = waiting.pop()
        left, right = divmod(pair, wide)
        for letter, after in one.arrows[left].items():
            if letter in other.arrows[right]:
                both = after * wide + other.arrows[right][letter]
                rows[pair][letter] = both
                if both not in rows:
                    rows[both] = {}
                    waiting.append(both)
    return rows


def common_graph(one, other):
    """The graph of the words that two graphs have in common; it has rings if both have."""
    wide = len(other.arrows)
    rows = joint_rows(one, other)
    # By rising numbers, so that there are no rings where one of the two graphs has none.
    pairs = sorted(rows)
    numbers = {pair: number for number, pair in enumerate(pairs)}
    arrows = [{letter: numbers[both] for letter, both in rows[pair].items()} for pair in pairs]
    return Graph(arrows, [one.ends[pair // wide] and other.ends[pair % wide] for pair in pairs])


def same_words_on(graph):
    """By nodes, a number that just those have in common from which the same words lead on, None where none do."""
    numbers = {}
    found = [None] * len(graph.arrows)
    for node in reversed(range(len(graph.arrows))):
        row = [(letter, found[after]) for letter, after in graph.arrows[node].items() if found[after] is not None]
        if row or graph.ends[node]:
            found[node] = numbers.setdefault((graph.ends[node], tuple(row)), len(numbers))
    return found


def merged(graph):
    """A graph of the same words in which no two nodes have the same words on; each node must be led to."""
    found = same_words_on(graph)
    if found[0] is None:
        return Graph([{}], [False])
    # Node 0 has the longest word on, so it came last, and has the greatest number alone.
    first = found[0]
    arrows = [{} for _ in range(first + 1)]
    ends = [False] * (first + 1)
    for node, number in enumerate(found):
        if number is not None:
            row = graph.arrows[node]
            arrows[first - number] = {letter: first - found[after] for letter, after in row.items()
                                      if found[after] is not None}
            ends[first - number] = graph.ends[node]
    return Graph(arrows, ends)


def count_common_words(one, other):
    """How many words two graphs have in common, without a graph of them, as that may be large."""
    total = 0
    table = [{} for _ in one.arrows]
    table[0][0] = 1
    for left, row in enumerate(one.arrows):
        here = list(table[left].items())
        table[left] = {}
        for right, many in here:
            if one.ends[left] and other.ends[right]:
                total += many
            further = other.arrows[right]
            for letter, after in row.items():
                if letter in further:
                    then = table[after]
                    then[further[letter]] = then.get(further[letter], 0) + many
    return total


def first_shortest(one, other):
    """The first, by the alphabet, of the shortest words common to two graphs, with rings or without, or None."""
    wide = len(other.arrows)
    seen = {0: True}
    level = [(0, "")]
    # All words of a level have as many letters, and stand by the alphabet, as those ahead do.
    while level:
        further = []
        for pair, word in level:
            left, right = divmod(pair, wide)
            if one.ends[left] and other.ends[right]:
                return word
            for letter, after in one.arrows[left].items():
                if letter in other.arrows[right]:
                    both = after * wide + other.arrows[right][letter]
                    if both not in seen:
                        seen[both] = True
                        further.append((both, word + letter))
        level = further
    return None


def before_graph(goal, many):
    """The graph, with rings, of the films of the first many letters that come to a goal.

    A block that can have begun can go on as long as the film does. So it only matters how many
    blocks can have begun, and whether the last letter can end the last one of them: for m blocks
    the node 2 * m if it can, otherwise 2 * m - 1.
    """
    arrows = [{goal[0]: 2}]
    for begun in range(1, len(goal) + 1):
        within = {letter: 2 * begun - 1 for letter in LETTERS}
        within[goal[begun - 1]] = 2 * begun
        at_end = dict(within)
        if begun < len(goal):
            at_end[goal[begun]] = 2 * begun + 2
        arrows.append(within)
        arrows.append(at_end)
    ends = [False] * (2 * len(goal)) + [True]
    return with_letters(Graph(arrows, ends), LETTERS[:many])


def unrolled(graph, size):
    """The graph, without rings, of those words of a graph, one with rings, that have just so many letters."""
    wide = len(graph.arrows)
    rows = []
    for step in range(1, size + 1):
        for row in graph.arrows:
            rows.append({letter: step * wide + after for letter, after in row.items()})
    rows.extend([{} for _ in range(wide)])
    return Graph(rows, [False] * (size * wide) + graph.ends)
