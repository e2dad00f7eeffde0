"""The desk: a film that is cut, cut by cut, on its way to a goal."""

from jumpcuts.checks import check_film, check_place
from jumpcuts.cuts import behind_cut, cuts, is_cut
from jumpcuts.errors import BadGoal, CannotCut, NothingToUndo
from jumpcuts.numbers import fewest_behind, fewest_cuts
from jumpcuts.partings import comes_to, earliest_starts


def check_goal(film, value):
    """Raise BadFilm for a value that is no film, BadGoal for a film to which another one does not come."""
    check_film(value)
    if not comes_to(film, value):
        raise BadGoal()


def latest_ends(film, goal):
    """The greatest places at which the blocks of a goal's letters can end, for a film that comes to it."""
    # From the end on, a block begins where it ends.
    starts = earliest_starts(film[::-1], goal[::-1])
    starts.reverse()
    return [len(film) - 1 - start for start in starts]


def good_cuts(film, goal):
    """The list of the cuts behind which a film, one that comes to a goal, still comes to it.

    Those are the cuts within a block of some parting. A block can begin first and end last in the
    same parting, as what stands ahead of it and what stands behind it are parted on their own.
    """
    blocks = list(zip(earliest_starts(film, goal), latest_ends(film, goal)))
    furthest = []
    for place in range(len(film)):
        furthest.append(max([end for start, end in blocks if start <= place]))
    return [pair for pair in cuts(film) if pair[1] <= furthest[pair[0]]]


def best_cuts(film, goal):
    """The list of the cuts that are the first ones of some shortest row of cuts to a goal.

    Those are the cuts that make one letter of a block of more than one letter, in a parting with
    the fewest such blocks.
    """
    behind = fewest_behind(film, goal)
    ahead = fewest_behind(film[::-1], goal[::-1])
    found = []
    for first, second in good_cuts(film, goal):
        for at, letter in enumerate(goal):
            others = ahead[len(goal) - at][len(film) - first] + behind[at + 1][second + 1]
            if letter == film[first] and others + 1 == behind[0][0]:
                found.append((first, second))
                break
    return found


class Desk:
    """A film, its cuts so far, and the goal to which it shall come."""

    def __init__(self, film, goal):
        check_film(film)
        check_goal(film, goal)
        self._films = [film]
        self._goal = goal

    @property
    def now(self):
        """The film as it is."""
        return self._films[-1]

    @property
    def goal(self):
        """The goal."""
        return self._goal

    @property
    def undoable(self):
        """How many cuts can be taken back."""
        return len(self._films) - 1

    def cut(self, first, second):
        """Cut the film between two places."""
        check_place(self.now, first)
        check_place(self.now, second)
        if not is_cut(self.now, (first, second)):
            raise CannotCut()
        self._films.append(behind_cut(self.now, (first, second)))

    def undo(self):
        """Take the last cut back that was not taken back."""
        if self.undoable == 0:
            raise NothingToUndo()
        self._films.pop()

    def change(self, goal):
        """Take another goal."""
        check_goal(self.now, goal)
        self._goal = goal

    def is_open(self):
        """Tell whether the goal can still come."""
        return comes_to(self.now, self.goal)

    def left(self):
        """How few cuts lead to the goal, None if it cannot come."""
        return fewest_cuts(self.now, self.goal)

    def good(self):
        """The ascending tuple of the cuts behind which the goal still can come."""
        return tuple(good_cuts(self.now, self.goal)) if self.is_open() else ()

    def best(self):
        """The ascending tuple of the cuts that are the first ones of some shortest row of cuts to the goal."""
        return tuple(best_cuts(self.now, self.goal)) if self.is_open() else ()
