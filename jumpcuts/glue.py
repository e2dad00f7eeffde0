"""Letters renamed, films joined, and what stands side by side in them."""

from jumpcuts.checks import LETTERS, MOST_LETTERS, check_film, check_length, check_number
from jumpcuts.errors import BadNames
from jumpcuts.partings import comes_to

MOST_TIMES = 200


def check_names(value):
    """Raise BadNames for a value that is no string of the eight letters in some order."""
    if not isinstance(value, str) or "".join(sorted(value)) != LETTERS:
        raise BadNames()


def starts_of_runs(film):
    """The rising list of the places of a film that have no like letter side by side ahead of them."""
    return [place for place in range(len(film)) if place == 0 or film[place - 1] != film[place]]


def renamed(film, names):
    """The film in which for each letter the one at its place in names stands."""
    check_film(film)
    check_names(names)
    return "".join([names[LETTERS.find(letter)] for letter in film])


def plain(film):
    """The film with the letters a, b, .. in the order in which its letters come for the first time."""
    check_film(film)
    order = ""
    for letter in film:
        if letter not in order:
            order += letter
    return "".join([LETTERS[order.find(letter)] for letter in film])


def alike(one, other):
    """Tell whether two films are the same but for the names of their letters."""
    return plain(one) == plain(other)


def joined(one, other):
    """One film behind the other."""
    check_film(one)
    check_film(other)
    check_length(one + other, MOST_LETTERS)
    return one + other


def repeated(film, times):
    """A film so many times."""
    check_film(film)
    check_number(times, 1, MOST_TIMES)
    check_length(film * times, MOST_LETTERS)
    return film * times


def joins_freely(one, other):
    """Tell whether no letter is in both of two films."""
    check_film(one)
    check_film(other)
    return not any([letter in other for letter in one])


def squeezed(film):
    """The film without the letters that stand behind like ones."""
    check_film(film)
    return "".join([film[place] for place in starts_of_runs(film)])


def runs(film):
    """The tuple of the pairs of a letter and how many of it stand side by side."""
    check_film(film)
    starts = starts_of_runs(film)
    return tuple([(film[start], stop - start) for start, stop in zip(starts, starts[1:] + [len(film)])])


def inner_letters(film, goal):
    """The letters of a film, by the alphabet, that a goal has not, None if the film does not come to it."""
    check_film(film)
    check_film(goal)
    if not comes_to(film, goal):
        return None
    return "".join([letter for letter in LETTERS if letter in film and letter not in goal])


def pairs_of(film):
    """The list, by the alphabet, of the letters of two neighboring blocks in all beginnings of partings."""
    check_film(film)
    # Any letter is a block of its own, and a block's last letter and the next one's first are neighbors.
    return sorted({film[place:place + 2] for place in range(len(film) - 1)})
