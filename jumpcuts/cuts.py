"""Cuts of a film, and rows of cuts."""

from jumpcuts.checks import check_film, check_place, is_whole
from jumpcuts.errors import BadCuts


def is_cut(film, item):
    """Tell whether a value is a cut of a film."""
    if not isinstance(item, tuple) or len(item) != 2:
        return False
    first, second = item
    if not is_whole(first) or not is_whole(second):
        return False
    return 0 <= first < second < len(film) and film[first] == film[second]


def behind_cut(film, item):
    """The film behind a cut of it."""
    first, second = item
    return film[:first + 1] + film[second + 1:]


def films_played(film, rows):
    """The films behind none, one, two, .. items of a tuple, as far as the items are cuts."""
    played = [film]
    for item in rows:
        if not is_cut(played[-1], item):
            break
        played.append(behind_cut(played[-1], item))
    return played


def is_row(film, value):
    """Tell whether a value is a row of cuts of a film."""
    return isinstance(value, tuple) and len(films_played(film, value)) == len(value) + 1


def cuts(film):
    """The ascending tuple of all cuts of a film."""
    check_film(film)
    size = len(film)
    pairs = [(first, second) for first in range(size) for second in range(first + 1, size)]
    return tuple([pair for pair in pairs if film[pair[0]] == film[pair[1]]])


def cut(film, first, second):
    """The film behind the cut between two places, None if it is none."""
    check_film(film)
    check_place(film, first)
    check_place(film, second)
    if not is_cut(film, (first, second)):
        return None
    return behind_cut(film, (first, second))


def next_films(film):
    """The list, by the alphabet, of the unlike films that one cut makes."""
    return sorted({behind_cut(film, pair) for pair in cuts(film)})


def films_on_the_way(film, rows):
    """The tuple of all films on the way of a row of cuts, both ends included."""
    check_film(film)
    if not isinstance(rows, tuple):
        raise BadCuts(None)
    played = films_played(film, rows)
    if len(played) <= len(rows):
        raise BadCuts(len(played) - 1)
    return tuple(played)


def play(film, rows):
    """The film behind a row of cuts."""
    return films_on_the_way(film, rows)[-1]


def kept_places(film, rows):
    """The rising tuple of the places of the film whose letters are left behind a row of cuts."""
    films_on_the_way(film, rows)
    kept = list(range(len(film)))
    for first, second in rows:
        del kept[first + 1:second + 1]
    return tuple(kept)
