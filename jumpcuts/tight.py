"""Tight cuts: those between a letter and the next one like it."""

from jumpcuts.checks import check_film, check_length
from jumpcuts.cuts import behind_cut, cuts, films_played, is_row
from jumpcuts.errors import BadCuts
from jumpcuts.merges import least_of, numbers_for_goal, numbers_of, tight_joins

MOST_FOR_FEWEST = 40
MOST_FOR_NUMBERS = 14


def is_tight(film, pair):
    """Tell of a cut whether its letter does not stand between its places."""
    first, second = pair
    return film.find(film[first], first + 1) == second


def tight_cuts(film):
    """The ascending tuple of all tight cuts of a film."""
    return tuple([pair for pair in cuts(film) if is_tight(film, pair)])


def tight_next(film):
    """The list, by the alphabet, of the unlike films that one tight cut makes."""
    return sorted({behind_cut(film, pair) for pair in tight_cuts(film)})


def is_tight_row(film, value):
    """Tell of any value whether it is a row of cuts each of which is tight."""
    check_film(film)
    if not is_row(film, value):
        return False
    played = films_played(film, value)
    return all([is_tight(now, pair) for now, pair in zip(played, value)])


def tight_row(film, rows):
    """The film behind a row of tight cuts."""
    if not is_tight_row(film, rows):
        raise BadCuts(None)
    return films_played(film, rows)[-1]


def fewest_tight(film, goal):
    """How few cuts a row of tight cuts from a film to a goal has, None if the film does not come to it."""
    check_film(film)
    check_film(goal)
    check_length(film, MOST_FOR_FEWEST)
    return least_of(numbers_for_goal(film, goal, tight_joins(film)))


def tight_numbers(film, goal):
    """The rising tuple of all numbers of cuts that rows of tight cuts from a film to a goal have."""
    check_film(film)
    check_film(goal)
    check_length(film, MOST_FOR_NUMBERS)
    return tuple(numbers_of(numbers_for_goal(film, goal, tight_joins(film))))
