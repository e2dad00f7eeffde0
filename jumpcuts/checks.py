"""Checks of arguments that all files share."""

from jumpcuts.errors import BadFilm, BadFilms, BadNumber, BadPlace, TooLong

LETTERS = "abcdefgh"
MOST_LETTERS = 200
MOST_FILMS = 4


def is_whole(value):
    """Tell whether a value is an integer, which True and False are not here."""
    return isinstance(value, int) and not isinstance(value, bool)


def is_letter(value):
    """Tell whether a value is one of the letters a to h."""
    return isinstance(value, str) and len(value) == 1 and value in LETTERS


def check_film(value):
    """Raise BadFilm for a value that is no film."""
    if not isinstance(value, str) or not 1 <= len(value) <= MOST_LETTERS:
        raise BadFilm(None)
    for place, sign in enumerate(value):
        if not is_letter(sign):
            raise BadFilm(place)


def check_films(value):
    """Raise BadFilms for a value that is no tuple of 1 to 4 items, BadFilm for the first item that is no film."""
    if not isinstance(value, tuple) or not 1 <= len(value) <= MOST_FILMS:
        raise BadFilms()
    for item in value:
        check_film(item)


def check_letter(value):
    """Raise BadNumber for a value that is none of the letters a to h."""
    if not is_letter(value):
        raise BadNumber()


def check_letters(value):
    """Raise BadNumber for a value that is no string of unlike letters by the alphabet."""
    if not isinstance(value, str) or len(value) > len(LETTERS):
        raise BadNumber()
    for letter in value:
        check_letter(letter)
    if value != "".join(sorted(set(value))):
        raise BadNumber()


def check_place(film, value):
    """Raise BadPlace for a value that is no place of a film."""
    if not is_whole(value) or not 0 <= value < len(film):
        raise BadPlace()


def check_number(value, least, most):
    """Raise BadNumber for a value that is no integer from least to most."""
    if not is_whole(value) or not least <= value <= most:
        raise BadNumber()


def check_rank(value):
    """Raise BadNumber for a value that is no integer from 0 on."""
    if not is_whole(value) or value < 0:
        raise BadNumber()


def check_length(film, most):
    """Raise TooLong for a film of more than so many letters."""
    if len(film) > most:
        raise TooLong(most)
