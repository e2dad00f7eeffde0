"""What comes of what: partings of a film for a goal, and their order."""

from jumpcuts.checks import check_film, check_rank, is_whole


def places_from(film, letter, start):
    """The rising list of the places of a letter from a place on."""
    return [place for place in range(start, len(film)) if film[place] == letter]


def earliest_starts(film, goal):
    """The least places at which the blocks of a goal's letters can begin, as far as there are any."""
    if film[0] != goal[0]:
        return []
    starts = [0]
    for at in range(1, len(goal)):
        # A block can end wherever its letter stands behind its start, so the next one
        # begins first where the two letters first stand side by side from there on.
        end = film.find(goal[at - 1:at + 1], starts[-1])
        if end < 0:
            break
        starts.append(end + 1)
    return starts


def comes_to(film, goal):
    """Tell of two films, known to be such, whether the first one comes to the second one."""
    return film[-1] == goal[-1] and len(earliest_starts(film, goal)) == len(goal)


def is_parting_for(film, goal, value):
    """Tell of any value whether it is a parting of a film for a goal, both known to be films."""
    if not isinstance(value, tuple) or len(value) != len(goal):
        return False
    start = 0
    for letter, end in zip(goal, value):
        if not is_whole(end) or not start <= end < len(film):
            return False
        if film[start] != letter or film[end] != letter:
            return False
        start = end + 1
    return start == len(film)


def counts_of_block(film, letter, behind):
    """How many partings begin with a block of a letter at each place.

    behind tells for each place, the film's length included, how many partings begin there
    for the letters behind this one.
    """
    counts = [0] * (len(film) + 1)
    total = 0
    for place in reversed(range(len(film))):
        if film[place] == letter:
            total += behind[place + 1]
            counts[place] = total
    return counts


def counts_behind(film, goal):
    """How many ways there are to part the rest of a film from a place on for the rest of a goal.

    The item at index k is for the goal without its first k letters, a list by the places.
    """
    table = [[0] * len(film) + [1]]
    for letter in reversed(goal):
        table.append(counts_of_block(film, letter, table[-1]))
    table.reverse()
    return table


def comes(film, goal):
    """Tell whether a film comes to a goal."""
    check_film(film)
    check_film(goal)
    return comes_to(film, goal)


def ends(film, goal):
    """The tuple, by the goal's letters, of the tuples of the places where their blocks can end."""
    check_film(film)
    check_film(goal)
    starts = earliest_starts(film, goal)
    return tuple([tuple(places_from(film, letter, start)) for letter, start in zip(goal, starts)])


def stuck(film, goal):
    """How many first letters of a goal have places where their blocks can end, None if the film comes to it."""
    check_film(film)
    check_film(goal)
    if comes_to(film, goal):
        return None
    return len(earliest_starts(film, goal))


def blocks(film, goal, parting):
    """The tuple of the blocks of a parting, None for any value that is none."""
    check_film(film)
    check_film(goal)
    if not is_parting_for(film, goal, parting):
        return None
    starts = [0] + [end + 1 for end in parting]
    return tuple([film[start:end + 1] for start, end in zip(starts, parting)])


def is_parting(film, goal, value):
    """Tell of any value whether it is a parting of a film for a goal."""
    check_film(film)
    check_film(goal)
    return is_parting_for(film, goal, value)


def count_partings(film, goal):
    """How many partings a film has for a goal."""
    check_film(film)
    check_film(goal)
    return counts_behind(film, goal)[0][0]


def parting_at(film, goal, rank):
    """The parting that so many stand ahead of, None if there are not so many."""
    check_film(film)
    check_film(goal)
    check_rank(rank)
    table = counts_behind(film, goal)
    if rank >= table[0][0]:
        return None
    ahead = rank
    parting = []
    start = 0
    for letter, counts in zip(goal, table[1:]):
        for end in places_from(film, letter, start):
            if ahead < counts[end + 1]:
                parting.append(end)
                start = end + 1
                break
            ahead -= counts[end + 1]
    return tuple(parting)


def rank_of_parting(film, goal, value):
    """How many partings stand ahead of one, None for any value that is none."""
    check_film(film)
    check_film(goal)
    if not is_parting_for(film, goal, value):
        return None
    table = counts_behind(film, goal)
    ahead = 0
    start = 0
    for letter, counts, chosen in zip(goal, table[1:], value):
        ahead += sum([counts[end + 1] for end in places_from(film, letter, start) if end < chosen])
        start = chosen + 1
    return ahead
