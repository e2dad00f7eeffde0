"""Webs: which letters have ties, and the walks that there are."""

from jumpcuts.checks import LETTERS, check_film, is_letter
from jumpcuts.errors import BadLetter, BadWeb, NoWalk
from jumpcuts.graphs import Graph


def is_tie(value):
    """Tell whether a value is a string of two letters, the lesser one first."""
    if not isinstance(value, str) or len(value) != 2:
        return False
    return is_letter(value[0]) and is_letter(value[1]) and value[0] < value[1]


def check_web(value):
    """Raise BadWeb for a value that is no web."""
    if not isinstance(value, tuple):
        raise BadWeb(None)
    for index, item in enumerate(value):
        if not is_tie(item) or index > 0 and item <= value[index - 1]:
            raise BadWeb(index)


def check_letter_of_web(value):
    """Raise BadLetter for a value that is none of the letters a to h."""
    if not is_letter(value):
        raise BadLetter()


def ties_of(film):
    """The list of the two letters, the lesser one first, of each two neighboring ones of a film."""
    return [min(one, other) + max(one, other) for one, other in zip(film, film[1:])]


def is_walk_in(web, film):
    """Tell whether a film is a walk in a web."""
    return all([tie in web for tie in ties_of(film)])


def check_walk(web, value):
    """Raise BadFilm for a value that is no film, NoWalk for a film that is no walk in a web."""
    check_film(value)
    if not is_walk_in(web, value):
        raise NoWalk()


def neighbors(web, gone):
    """By the letters a to h but some that are gone, those left, by the alphabet, with which they have a tie."""
    left = [letter for letter in LETTERS if letter not in gone]
    return {letter: [other for other in left if min(letter, other) + max(letter, other) in web] for letter in left}


def part_of(near, letter):
    """The list, by the alphabet, of the letters to which there is a walk from a letter, itself included."""
    found = {letter: True}
    waiting = [letter]
    while waiting:
        here = waiting.pop()
        for other in near[here]:
            if other not in found:
                found[other] = True
                waiting.append(other)
    return sorted(found)


def web_graph(web):
    """The graph, with rings, of the walks in a web; its node 0 has had no letter."""
    numbers = {letter: at + 1 for at, letter in enumerate(LETTERS)}
    near = neighbors(web, "")
    arrows = [numbers]
    for letter in LETTERS:
        arrows.append({other: numbers[other] for other in near[letter]})
    return Graph(arrows, [False] + [True] * len(LETTERS))
