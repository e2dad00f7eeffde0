"""Walks in webs, and their loops cut out."""

from jumpcuts.checks import LETTERS, MOST_LETTERS, check_film, check_length, check_number
from jumpcuts.graphs import counts_by_size
from jumpcuts.joints import before_graph, common_graph
from jumpcuts.webs import check_letter_of_web, check_walk, check_web, is_walk_in, neighbors, ties_of, web_graph

MOST_OF_GOAL = 12


def counts_of_walks(near, first, last, size):
    """The list of how many walks of 1, 2, .. size letters begin with one letter and end with another one.

    near tells for each letter those with which it has a tie.
    """
    counts = []
    now = {letter: 1 if letter == first else 0 for letter in near}
    for _ in range(size):
        counts.append(now[last])
        now = {letter: sum([now[other] for other in near[letter]]) for letter in near}
    return counts


def counts_together(one, other):
    """By sums, how many pairs of two things have them, told how many things have 0, 1, 2, .. each."""
    return [sum([one[part] * other[total - part] for part in range(total + 1)]) for total in range(len(one))]


def loops_gone(film):
    """What is left of a film without its loops, and the list of these."""
    left = ""
    gone = []
    for letter in film:
        at = left.find(letter)
        if at < 0:
            left += letter
        else:
            gone.append(left[at:] + letter)
            left = left[:at + 1]
    return left, gone


def is_walk(web, film):
    """Tell whether a film is a walk in a web."""
    check_web(web)
    check_film(film)
    return is_walk_in(web, film)


def count_walks(web, first, last, size):
    """How many walks of so many letters begin with one letter and end with another one."""
    check_web(web)
    check_letter_of_web(first)
    check_letter_of_web(last)
    check_number(size, 1, MOST_LETTERS)
    return counts_of_walks(neighbors(web, ""), first, last, size)[-1]


def paths(web, first, last):
    """The list, by the alphabet, of the walks from one letter to another one in which no letter stands twice."""
    check_web(web)
    check_letter_of_web(first)
    check_letter_of_web(last)
    near = neighbors(web, "")
    found = []
    waiting = [first]
    while waiting:
        word = waiting.pop()
        if word[-1] == last:
            found.append(word)
        else:
            waiting.extend([word + letter for letter in near[word[-1]] if letter not in word])
    return sorted(found)


def walks_to(web, goal, size):
    """How many walks of so many letters come to a goal."""
    check_web(web)
    check_walk(web, goal)
    check_number(size, 1, MOST_LETTERS)
    check_length(goal, MOST_OF_GOAL)
    graph = common_graph(before_graph(goal, len(LETTERS)), web_graph(web))
    return counts_by_size(graph, size)[-1]


def web_of(film):
    """The web of all ties of neighboring letters of a film, None if two like ones are neighbors."""
    check_film(film)
    ties = ties_of(film)
    if any([tie[0] == tie[1] for tie in ties]):
        return None
    return tuple(sorted(set(ties)))


def loop_cut(film):
    """What is left of a film if its loops are cut out from its beginning on."""
    check_film(film)
    left, _ = loops_gone(film)
    return left


def back_cut(film):
    """What is left of a film if its loops are cut out from its end backward."""
    check_film(film)
    left, _ = loops_gone(film[::-1])
    return left[::-1]


def loops(film):
    """The tuple of what is cut out each time from a film's beginning on, with the letter at both ends."""
    check_film(film)
    _, gone = loops_gone(film)
    return tuple(gone)


def count_loop_cut(web, path, size):
    """How many walks of so many letters a told walk is left of, if their loops are cut out."""
    check_web(web)
    check_walk(web, path)
    check_number(size, 1, MOST_LETTERS)
    spare = size - len(path)
    if spare < 0 or len(set(path)) < len(path):
        return 0
    # Behind the last time that a letter of the path comes, the walk never has it again. So the walk
    # is one of loops at the letters, one behind the other, each without the letters ahead.
    counts = [1] + [0] * spare
    for at, letter in enumerate(path):
        around = counts_of_walks(neighbors(web, path[:at]), letter, letter, spare + 1)
        counts = counts_together(counts, around)
    return counts[-1]
