"""Texts of films and of rows of cuts."""

from jumpcuts.checks import MOST_LETTERS, check_film, is_letter
from jumpcuts.cuts import films_on_the_way
from jumpcuts.errors import InvalidText, NotText
from jumpcuts.glue import runs

DIGITS = "0123456789"
MOST_SIGNS = 1000
MOST_DIGITS = 3


def check_text(value):
    """Raise NotText for a value that is no string of at most 1000 signs."""
    if not isinstance(value, str) or len(value) > MOST_SIGNS:
        raise NotText()


def digits_at(text, place):
    """The digits that stand side by side from a place on."""
    stop = place
    while stop < len(text) and text[stop] in DIGITS:
        stop += 1
    return text[place:stop]


def times_told(digits, place):
    """How many letters a run has, told by the digits behind its letter, which begin at a place."""
    if digits == "":
        return 1
    if digits[0] == "0" or len(digits) > MOST_DIGITS or int(digits) < 2:
        raise InvalidText(place)
    return int(digits)


def number_at(text, place):
    """The digits of the number that is due at a place."""
    digits = digits_at(text, place)
    if digits == "" or len(digits) > MOST_DIGITS or digits[0] == "0" and digits != "0":
        raise InvalidText(place)
    return digits


def cut_at(text, place):
    """The cut whose text begins at a place, and the place behind it."""
    first = number_at(text, place)
    between = place + len(first)
    if text[between:between + 1] != "-":
        raise InvalidText(between)
    second = number_at(text, between + 1)
    return (int(first), int(second)), between + 1 + len(second)


def write(film):
    """The text of a film."""
    return "".join([letter if many == 1 else letter + str(many) for letter, many in runs(film)])


def read(text):
    """The film of a text."""
    check_text(text)
    if text == "":
        raise InvalidText(0)
    film = ""
    place = 0
    while place < len(text):
        letter = text[place]
        if not is_letter(letter) or film.endswith(letter):
            raise InvalidText(place)
        digits = digits_at(text, place + 1)
        film += letter * times_told(digits, place + 1)
        if len(film) > MOST_LETTERS:
            raise InvalidText(place)
        place += 1 + len(digits)
    return film


def write_cuts(film, rows):
    """The text of a row of cuts."""
    films_on_the_way(film, rows)
    return " ".join([f"{first}-{second}" for first, second in rows])


def read_cuts(film, text):
    """The row of cuts of a text."""
    check_film(film)
    check_text(text)
    rows = []
    place = 0
    while place < len(text):
        if rows:
            if text[place] != " ":
                raise InvalidText(place)
            place += 1
        pair, place = cut_at(text, place)
        rows.append(pair)
    films_on_the_way(film, tuple(rows))
    return tuple(rows)
