"""Rings: films whose ends are joined.

At each time each letter that is left of a ring stands for a block of it that begins and ends with
it, and the blocks go once around. So cuts lead from a ring to a goal just if one of the films that
tell the ring comes to the goal as a film, by as many cuts.
"""

from jumpcuts.checks import check_film, check_length
from jumpcuts.graphs import outcome_graph, words_of
from jumpcuts.numbers import fewest_cuts
from jumpcuts.outcomes import shortest_length
from jumpcuts.partings import comes_to, count_partings

MOST_OF_RING = 60
MOST_FOR_OUTCOMES = 12


def turned(film):
    """The list of the films that begin at the places of a ring, in order, and go once around."""
    return [film[place:] + film[:place] for place in range(len(film))]


def least_turned(film):
    """The least of the films that tell a ring."""
    return min(turned(film))


def check_rings(film, goal):
    """Raise an error for what are no two rings that may be compared."""
    check_film(film)
    check_film(goal)
    check_length(film, MOST_OF_RING)
    check_length(goal, MOST_OF_RING)


def ring_name(film):
    """The name of a ring."""
    check_film(film)
    return least_turned(film)


def same_ring(one, other):
    """Tell whether two films tell the same ring."""
    check_film(one)
    check_film(other)
    return least_turned(one) == least_turned(other)


def ring_period(film):
    """The least number of places by which a ring is turned when the same film tells it again."""
    check_film(film)
    return (film + film).find(film, 1)


def ring_next(film):
    """The list, by the alphabet, of the names of the unlike rings that one cut makes."""
    check_film(film)
    check_length(film, MOST_OF_RING)
    left = {}
    for each in turned(film):
        # What is cut out ends with the last letter here, and began behind a like one.
        for size in range(1, len(each)):
            if each[size - 1] == each[-1]:
                left[each[:size]] = True
    return sorted({least_turned(each) for each in left})


def is_last_ring(film):
    """Tell whether a ring has no cut."""
    check_film(film)
    return len(set(film)) == len(film)


def ring_comes(film, goal):
    """Tell whether cuts lead from a ring to a goal, a ring, too."""
    check_rings(film, goal)
    return any([comes_to(each, goal) for each in turned(film)])


def ring_fewest(film, goal):
    """How few cuts lead from a ring to a goal, None if none do."""
    check_rings(film, goal)
    numbers = [fewest_cuts(each, goal) for each in turned(film)]
    return min([number for number in numbers if number is not None], default=None)


def ring_partings(film, goal):
    """How many pairs there are of a place and of a parting, for the goal, of the film that begins there."""
    check_rings(film, goal)
    return sum([count_partings(each, goal) for each in turned(film)])


def ring_shortest(film):
    """How many letters the shortest rings have to which cuts lead."""
    check_film(film)
    check_length(film, MOST_OF_RING)
    return min([shortest_length(each) for each in turned(film)])


def ring_outcomes(film):
    """The list, by the alphabet, of the names of all rings to which cuts lead, its own included."""
    check_film(film)
    check_length(film, MOST_FOR_OUTCOMES)
    return sorted({least_turned(word) for each in turned(film) for word in words_of(outcome_graph(each))})
