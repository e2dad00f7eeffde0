"""Drawn walks: each letter next is drawn from those with a tie, each with the same chance.

What is asked is a number for each letter at which the walk can be and go on, told by the numbers
of its neighbors. So there is an equation for each of these letters: its number times its ties,
less the numbers of those neighbors that have an equation, too, is a known right side.
"""

from jumpcuts.errors import NoWay
from jumpcuts.ratios import ratio
from jumpcuts.walks import paths
from jumpcuts.webs import check_letter_of_web, check_walk, check_web, neighbors, part_of


def rows_of(near, letters):
    """The left sides of the equations for some letters; near tells for each letter those with which it has a tie."""
    rows = []
    for letter in letters:
        rows.append([len(near[letter]) if other == letter else -near[letter].count(other) for other in letters])
    return rows


def last_row(rows):
    """What is left of the last row when it is freed from all columns but its last ones.

    Each number on the way is the determinant of some of the rows and columns, so that it is whole.
    Those by which is divided are above 0, as each letter is led to one that has no equation.
    """
    left = rows
    ahead = 1
    while len(left) > 1:
        top = left[0]
        left = [[(row[at] * top[0] - row[0] * top[at]) // ahead for at in range(1, len(row))] for row in left[1:]]
        ahead = top[0]
    return left[0]


def determinant(near, letters):
    """The determinant of the left sides of the equations for some letters, 1 for none."""
    return last_row(rows_of(near, letters))[0] if letters else 1


def solved(near, letters, first, sides):
    """The number of the letter first, one of those with an equation, the right sides being told by letters."""
    order = [letter for letter in letters if letter != first] + [first]
    rows = [row + [sides[letter]] for letter, row in zip(order, rows_of(near, order))]
    low, top = last_row(rows)
    return ratio(top, low)


def others(letters, gone):
    """The list of some letters without those that are gone."""
    return [letter for letter in letters if letter not in gone]


def check_way(web, first, last):
    """Raise an error for what are no two letters of which a walk is drawn from one to the other."""
    check_letter_of_web(first)
    check_letter_of_web(last)
    if first == last or last not in part_of(neighbors(web, ""), first):
        raise NoWay()


def path_chance(web, path):
    """The chance that a path is left, without its loops, of a walk drawn from its first letter to its last one."""
    check_web(web)
    check_walk(web, path)
    if len(path) < 2 or len(set(path)) < len(path):
        raise NoWay()
    near = neighbors(web, "")
    part = part_of(near, path[0])
    # The mean number of visits at a letter divided by its ties is the determinant without the
    # letter divided by that with it, so that of the product only the first and the last are left.
    return ratio(determinant(near, others(part, path)), determinant(near, others(part, path[-1])))


def mean_path(web, first, last):
    """The mean number of letters that are left, without its loops, of a walk drawn from a letter to another one."""
    check_web(web)
    check_way(web, first, last)
    near = neighbors(web, "")
    part = part_of(near, first)
    total = sum([len(path) * determinant(near, others(part, path)) for path in paths(web, first, last)])
    return ratio(total, determinant(near, others(part, last)))


def mean_steps(web, first, last):
    """The mean number of steps of a walk drawn from a letter to another one."""
    check_web(web)
    check_way(web, first, last)
    near = neighbors(web, "")
    # Each step is one more than those from the letter behind it on.
    return solved(near, others(part_of(near, first), last), first, {letter: len(near[letter]) for letter in near})


def visit_mean(web, first, last, letter):
    """How often in the mean a walk drawn from a letter to another one has a letter other than that one."""
    check_web(web)
    check_way(web, first, last)
    check_letter_of_web(letter)
    near = neighbors(web, "")
    part = part_of(near, first)
    if letter == last or letter not in part:
        raise NoWay()
    sides = {each: 0 for each in part}
    sides[letter] = len(near[letter])
    return solved(near, others(part, last), first, sides)


def meets_first(web, first, one, other):
    """The chance that a walk drawn from the letter first to the letter one has not had the letter other."""
    check_web(web)
    check_way(web, first, one)
    check_letter_of_web(other)
    if other == first or other == one:
        raise NoWay()
    near = neighbors(web, "")
    sides = {letter: near[letter].count(one) for letter in near}
    return solved(near, others(part_of(near, first), one + other), first, sides)
