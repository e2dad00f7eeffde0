"""All films of a size, and how many of some have which number."""

from jumpcuts.checks import LETTERS, check_number

MOST_OF_SIZE = 7
MOST_OF_MANY = 3


def check_size_and_many(size, many):
    """Raise BadNumber for a size or a number of letters for which not all films are gone through."""
    check_number(size, 1, MOST_OF_SIZE)
    check_number(many, 1, MOST_OF_MANY)


def films_of_size(size, many):
    """The list, by the alphabet, of all films of so many letters, of the first many ones."""
    films = [""]
    for _ in range(size):
        films = [film + letter for film in films for letter in LETTERS[:many]]
    return films


def tally(numbers):
    """The rising tuple of the pairs of a number and how often it is among some numbers."""
    found = {}
    for number in numbers:
        found[number] = found.get(number, 0) + 1
    return tuple(sorted(found.items()))
