"""How few and how many cuts lead from a film to a goal."""

from jumpcuts.checks import check_film, check_length
from jumpcuts.cuts import films_played, is_row
from jumpcuts.merges import any_joins, greatest_of, numbers_for_goal, numbers_of
from jumpcuts.partings import places_from

MOST_FOR_MOST = 40
MOST_FOR_NUMBERS = 24


def fewest_of_block(film, letter, behind):
    """The least number of longer blocks of the partings that begin with a block of a letter, by places.

    behind tells the same for the letters behind this one. The film's length stands for no
    parting: no parting has so many blocks of more than one letter.
    """
    none = len(film)
    fewest = [none] * (len(film) + 1)
    longer = none
    for place in reversed(range(len(film))):
        if film[place] == letter:
            fewest[place] = min(behind[place + 1], longer)
            longer = min(longer, behind[place + 1] + 1)
    return fewest


def fewest_behind(film, goal):
    """The tables of fewest_of_block for the goal without its first 0, 1, 2, .. letters."""
    table = [[len(film)] * len(film) + [0]]
    for letter in reversed(goal):
        table.append(fewest_of_block(film, letter, table[-1]))
    table.reverse()
    return table


def fewest_parting(film, goal, table):
    """A parting with the least number of blocks of more than one letter."""
    parting = []
    start = 0
    for at, letter in enumerate(goal):
        for end in places_from(film, letter, start):
            longer = 1 if end > start else 0
            if table[at + 1][end + 1] + longer == table[at][start]:
                parting.append(end)
                start = end + 1
                break
    return parting


def cuts_for(parting):
    """A row of one cut for each block of more than one letter."""
    rows = []
    start = 0
    for at, end in enumerate(parting):
        if end > start:
            # The blocks ahead are one letter each by now, so this one begins at its number.
            rows.append((at, at + end - start))
        start = end + 1
    return tuple(rows)


def fewest_cuts(film, goal):
    """How few cuts a row from a film to a goal has, None if the film does not come to it."""
    check_film(film)
    check_film(goal)
    fewest = fewest_behind(film, goal)[0][0]
    return fewest if fewest < len(film) else None


def some_cuts(film, goal):
    """A row of the fewest cuts from a film to a goal, None if the film does not come to it."""
    check_film(film)
    check_film(goal)
    table = fewest_behind(film, goal)
    if table[0][0] == len(film):
        return None
    return cuts_for(fewest_parting(film, goal, table))


def shows_cuts(film, goal, value):
    """Tell of any value whether it is a row of the fewest cuts from a film to a goal."""
    fewest = fewest_cuts(film, goal)
    if not is_row(film, value) or len(value) != fewest:
        return False
    return films_played(film, value)[-1] == goal


def most_cuts(film, goal):
    """How many cuts a row from a film to a goal has at most, None if the film does not come to it."""
    check_film(film)
    check_film(goal)
    check_length(film, MOST_FOR_MOST)
    joined, _ = any_joins(film)
    return greatest_of(numbers_for_goal(film, goal, joined))


def most_in_all(film):
    """How many cuts a row has at most."""
    check_film(film)
    check_length(film, MOST_FOR_MOST)
    _, between = any_joins(film)
    return greatest_of(between[0][len(film)])


def block_most(film):
    """How many cuts a row has at most that leaves the first letter alone, None if none does."""
    check_film(film)
    check_length(film, MOST_FOR_MOST)
    joined, _ = any_joins(film)
    return greatest_of(joined[0][-1])


def cut_numbers(film, goal):
    """The rising tuple of all numbers of cuts that rows from a film to a goal have."""
    check_film(film)
    check_film(goal)
    check_length(film, MOST_FOR_NUMBERS)
    joined, _ = any_joins(film)
    return tuple(numbers_of(numbers_for_goal(film, goal, joined)))
