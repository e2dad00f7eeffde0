"""Films: words of the letters a to h, and the places of their letters."""

from jumpcuts.checks import check_film, check_letter, check_place


def kinds(film):
    """The letters of a film, each once, by the alphabet."""
    check_film(film)
    return "".join(sorted(set(film)))


def is_last(film):
    """Tell whether no letter stands twice in a film."""
    check_film(film)
    return len(set(film)) == len(film)


def places(film, letter):
    """The rising tuple of the places of a letter."""
    check_film(film)
    check_letter(letter)
    return tuple([place for place, sign in enumerate(film) if sign == letter])


def next_like(film, place):
    """The next place with the letter at a place, None if there is none."""
    check_film(film)
    check_place(film, place)
    behind = film.find(film[place], place + 1)
    return None if behind < 0 else behind


def first_again(film):
    """The pair of the first place of a letter that stood before and of that letter's first place, the lesser first."""
    check_film(film)
    for second, letter in enumerate(film):
        first = film.find(letter)
        if first < second:
            return (first, second)
    return None
