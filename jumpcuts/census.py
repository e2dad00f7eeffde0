"""All films of a size told together, and their order by the alphabet."""

from math import perm

from jumpcuts.checks import LETTERS, MOST_LETTERS, check_film, check_number, check_rank
from jumpcuts.numbers import most_in_all
from jumpcuts.outcomes import count_outcomes
from jumpcuts.tallies import check_size_and_many, films_of_size, tally


def check_long_size_and_many(size, many):
    """Raise BadNumber for what is no size of a film or no number of letters."""
    check_number(size, 1, MOST_LETTERS)
    check_number(many, 1, len(LETTERS))


def count_pairs(size, many):
    """How many pairs there are of a film of so many letters, of the first many ones, and of an outcome of it."""
    check_size_and_many(size, many)
    return sum([count_outcomes(film) for film in films_of_size(size, many)])


def outcome_census(size, many):
    """The rising tuple of the pairs of a number of outcomes and how many films of a size have so many."""
    check_size_and_many(size, many)
    return tally([count_outcomes(film) for film in films_of_size(size, many)])


def cuts_census(size, many):
    """The rising tuple of the pairs of a greatest number of cuts and how many films of a size have it."""
    check_size_and_many(size, many)
    return tally([most_in_all(film) for film in films_of_size(size, many)])


def richest(size, many):
    """The pair of the greatest number of outcomes of a film of a size and of the first such film, by the alphabet."""
    check_size_and_many(size, many)
    # Of like greatest films max takes the one that comes first.
    first = max(films_of_size(size, many), key=count_outcomes)
    return (count_outcomes(first), first)


def count_last(size, many):
    """How many films of so many letters, of the first many ones, have no cut."""
    check_long_size_and_many(size, many)
    return perm(many, size)


def count_squeezed(size, many):
    """How many films of so many letters, of the first many ones, have no two like letters side by side."""
    check_long_size_and_many(size, many)
    total = many
    for _ in range(size - 1):
        total = total * (many - 1)
    return total


def film_at(size, many, rank):
    """The film of a size that so many stand ahead of, by the alphabet, None if there are not so many."""
    check_long_size_and_many(size, many)
    check_rank(rank)
    film = ""
    ahead = rank
    for _ in range(size):
        ahead, number = divmod(ahead, many)
        film = LETTERS[number] + film
    return film if ahead == 0 else None


def film_rank(film, many):
    """How many films of as many letters, of the first many ones, stand ahead of a film, None if it has another."""
    check_film(film)
    check_number(many, 1, len(LETTERS))
    ahead = 0
    for letter in film:
        number = LETTERS.find(letter)
        if number >= many:
            return None
        ahead = ahead * many + number
    return ahead
