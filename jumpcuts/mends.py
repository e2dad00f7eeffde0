"""How few letters must be put in, left out or changed, so that a film comes to a goal.

What is made of some first letters of a film is told by two lists, by how many blocks of the goal
are begun: ended has the least cost if the last letter can end the last block, within has it if
that need not be so.
"""

from jumpcuts.checks import check_film
from jumpcuts.partings import comes_to

# More than the letters of a film and of a goal together: what costs so much cannot be done.
NEVER = 1000


def with_letters_put_in(ended, within, cost):
    """The lists ended and within, once letters may be put in behind the last letter."""
    ended_now = [ended[0]]
    within_now = [within[0]]
    for begun in range(1, len(ended)):
        ended_now.append(min(ended[begun], ended_now[-1] + cost, within[begun] + cost))
        within_now.append(min(within[begun], ended_now[-1]))
    return ended_now, within_now


def with_next_letter(ended, within, goal, letter, left_out, changed):
    """The lists ended and within, once the film's next letter is kept, left out or changed."""
    ended_now = [ended[0] + left_out]
    within_now = [within[0]]
    for begun, wanted in enumerate(goal, start=1):
        cost = 0 if letter == wanted else changed
        as_wanted = min(ended[begun - 1], within[begun]) + cost
        ended_now.append(min(as_wanted, ended[begun] + left_out))
        # Within a block any letter may stand, so that it is never left out there.
        within_now.append(min(as_wanted, within[begun]))
    return ended_now, within_now


def least_cost(film, goal, put_in, left_out, changed):
    """The least cost of letters put in, left out and changed so that a film comes to a goal, None if there is none."""
    ended = [0] + [NEVER] * len(goal)
    within = [NEVER] * (len(goal) + 1)
    ended, within = with_letters_put_in(ended, within, put_in)
    for letter in film:
        ended, within = with_next_letter(ended, within, goal, letter, left_out, changed)
        ended, within = with_letters_put_in(ended, within, put_in)
    return ended[-1] if ended[-1] < NEVER else None


def fewest_put_in(film, goal):
    """How few letters must be put into a film so that it comes to a goal."""
    check_film(film)
    check_film(goal)
    return least_cost(film, goal, 1, NEVER, NEVER)


def fewest_left_out(film, goal):
    """How few letters of a film must be left out so that it comes to a goal, None if it cannot be done so."""
    check_film(film)
    check_film(goal)
    return least_cost(film, goal, NEVER, 1, NEVER)


def fewest_changed(film, goal):
    """How few letters of a film must be made others so that it comes to a goal, None if it cannot be done so."""
    check_film(film)
    check_film(goal)
    return least_cost(film, goal, NEVER, NEVER, 1)


def fewest_mends(film, goal):
    """How few letters must be put in, left out and made others in all so that a film comes to a goal."""
    check_film(film)
    check_film(goal)
    return least_cost(film, goal, 1, 1, 1)


def one_letter_more(film, goal):
    """The ascending tuple of the pairs (place, letter) such that the letter put in ahead of there is enough."""
    check_film(film)
    check_film(goal)
    pairs = [(place, letter) for place in range(len(film) + 1) for letter in sorted(set(goal))]
    return tuple([(place, letter) for place, letter in pairs if comes_to(film[:place] + letter + film[place:], goal)])


def one_letter_less(film, goal):
    """The rising tuple of the places whose letters, left out alone, leave a film that comes to the goal."""
    check_film(film)
    check_film(goal)
    if len(film) == 1:
        # What is left has no letters, so it is no film.
        return ()
    return tuple([place for place in range(len(film)) if comes_to(film[:place] + film[place + 1:], goal)])
