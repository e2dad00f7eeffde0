"""Drawn cuts, each with the same chance, until there is none."""

from jumpcuts.checks import check_film, check_length, check_number
from jumpcuts.ratios import NOUGHT, ONE, plus, ratio, times
from jumpcuts.ways import MOST_FOR_WAYS, ways_from


def chances_of_next(numbers, chance):
    """By the films that one cut makes, the chance that they come, from how many cuts make them and the chance ahead."""
    total = sum(numbers.values())
    return {after: times(chance, ratio(many, total)) for after, many in numbers.items()}


def visit_chances(ways, film):
    """By the outcomes of a film, whose ways_from is told, the chance that they come at some time."""
    chances = {each: NOUGHT for each in ways}
    chances[film] = ONE
    # A cut makes a film shorter, so no chance changes any more once its film has its turn.
    for each, numbers in ways.items():
        drawn = chances_of_next(numbers, chances[each])
        for after, chance in drawn.items():
            chances[after] = plus(chances[after], chance)
    return chances


def chances_after(film, steps):
    """By outcomes, the chance above 0 that they are there behind so many drawn cuts, or all if there are fewer."""
    ways = ways_from(film)
    now = {film: ONE}
    for _ in range(steps):
        then = {}
        for each, chance in now.items():
            further = chances_of_next(ways[each], chance) if ways[each] else {each: chance}
            for after, more in further.items():
                then[after] = plus(then.get(after, NOUGHT), more)
        now = then
    return now


def mean(pairs):
    """The mean of some numbers with their chances, told by pairs (number, chance)."""
    total = NOUGHT
    for number, chance in pairs:
        total = plus(total, times((number, 1), chance))
    return total


def visit_chance(film, goal):
    """The chance that a goal comes at some time."""
    check_film(film)
    check_film(goal)
    check_length(film, MOST_FOR_WAYS)
    return visit_chances(ways_from(film), film).get(goal, NOUGHT)


def mean_cuts(film):
    """The mean number of cuts until there is none."""
    check_film(film)
    check_length(film, MOST_FOR_WAYS)
    ways = ways_from(film)
    chances = visit_chances(ways, film)
    return mean([(1, chances[each]) for each in ways if ways[each]])


def chances_of_last(film):
    """The list, by the alphabet, of the pairs of a last outcome and the chance that it is left."""
    ways = ways_from(film)
    chances = visit_chances(ways, film)
    return [(each, chances[each]) for each in sorted(ways) if not ways[each]]


def mean_last_length(film):
    """The mean number of letters that are left when there is no cut."""
    check_film(film)
    check_length(film, MOST_FOR_WAYS)
    return mean([(len(each), chance) for each, chance in chances_of_last(film)])


def last_chances(film):
    """The tuple, by the alphabet, of the pairs of a last outcome and the chance that it is left."""
    check_film(film)
    check_length(film, MOST_FOR_WAYS)
    return tuple(chances_of_last(film))


def chances_behind(film, steps):
    """The tuple, by the alphabet, of the pairs of an outcome and the chance that it is there behind so many cuts."""
    check_film(film)
    check_number(steps, 0, MOST_FOR_WAYS)
    check_length(film, MOST_FOR_WAYS)
    return tuple(sorted(chances_after(film, steps).items()))


def mean_length(film, steps):
    """The mean number of letters behind so many drawn cuts."""
    check_film(film)
    check_number(steps, 0, MOST_FOR_WAYS)
    check_length(film, MOST_FOR_WAYS)
    return mean([(len(each), chance) for each, chance in chances_after(film, steps).items()])
