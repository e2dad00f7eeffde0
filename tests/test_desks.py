"""Point 32: the desk."""

import random

from jumpcuts.desks import Desk
from jumpcuts.errors import BadFilm, BadGoal, BadPlace, CannotCut, NothingToUndo
from jumpcuts.numbers import fewest_cuts
from jumpcuts.partings import comes

from tests.plain import (
    LONG_FILMS, NO_FILMS, NO_INTEGERS, PlainCase, films_of, near_goals, numbers_by_goal, plain_cut, plain_cuts,
    plain_goals, plain_outcomes, some_films,
)

ALL = "abcdefgh"
NO_PLACES = NO_INTEGERS + (-1, 200, 10 ** 30)


def plain_left(film, goal):
    return min(numbers_by_goal(film).get(goal, [None]))


class DeskCase(PlainCase):

    def told(self, desk):
        """All that a desk tells."""
        return [desk.now, desk.goal, desk.undoable, desk.is_open(), desk.left(), desk.good(), desk.best()]

    def wanted(self, film, goal, undoable):
        """All that a desk shall tell of a small film, worked out with all rows of cuts."""
        left = plain_left(film, goal)
        good = tuple(pair for pair in plain_cuts(film) if goal in plain_goals(plain_cut(film, pair)))
        best = tuple(pair for pair in good if plain_left(plain_cut(film, pair), goal) + 1 == left)
        return [film, goal, undoable, left is not None, left, good, best]

    def fails_and_stays(self, error, desk, call, *values, **fields):
        """The call raises the error, and the desk tells the same before and after."""
        before = self.told(desk)
        self.fails(error, call, *values, **fields)
        self.same(self.told(desk), before, values)


class Steps(DeskCase):

    def test_small_films_with_all_goals(self):
        for film in films_of("ab", 1, 6) + films_of("abc", 1, 4):
            for goal in films_of("ab", 1, 5):
                if goal in plain_goals(film):
                    self.same(self.told(Desk(film, goal)), self.wanted(film, goal, 0), film, goal)
                else:
                    self.fails(BadGoal, Desk, film, goal)
            self.same(self.told(Desk(film, film)), [film, film, 0, True, 0, (), ()], film)

    def test_all_cuts_one_by_one(self):
        for film in films_of("ab", 2, 5) + ["abcabc", "aabbab", "abacab"]:
            for goal in plain_goals(film):
                for pair in plain_cuts(film):
                    desk = Desk(film, goal)
                    self.same(desk.cut(*pair), None)
                    now = plain_cut(film, pair)
                    self.same(self.told(desk), self.wanted(now, goal, 1), film, goal, pair)
                    self.same(desk.undo(), None)
                    self.same(self.told(desk), self.wanted(film, goal, 0), film, goal, pair)

    def draw_steps(self, film, draw, steps):
        """Cuts, steps back, changes and wrong calls in any order, against a list of films."""
        films = [film]
        goal = draw.choice(plain_outcomes(film))
        desk = Desk(film, goal)
        for _ in range(steps):
            now = films[-1]
            choice = draw.randrange(5)
            if choice < 2 and plain_cuts(now):
                pair = draw.choice(plain_cuts(now))
                self.same(desk.cut(*pair), None)
                films.append(plain_cut(now, pair))
            elif choice == 2 and len(films) > 1:
                self.same(desk.undo(), None)
                films.pop()
            elif choice == 3:
                goal = draw.choice(plain_outcomes(now))
                self.same(desk.change(goal), None)
            else:
                self.wrong_calls(desk, films, draw)
            self.same(self.told(desk), self.wanted(films[-1], goal, len(films) - 1), film)
        while len(films) > 1:
            desk.undo()
            films.pop()
            self.same(self.told(desk), self.wanted(films[-1], goal, len(films) - 1), film)
        self.fails_and_stays(NothingToUndo, desk, desk.undo)

    def wrong_calls(self, desk, films, draw):
        now = films[-1]
        if len(films) == 1:
            self.fails_and_stays(NothingToUndo, desk, desk.undo)
        self.fails_and_stays(BadPlace, desk, desk.cut, draw.choice(NO_PLACES), 0)
        self.fails_and_stays(BadPlace, desk, desk.cut, 0, draw.choice(NO_PLACES + (len(now),)))
        one, other = draw.randrange(len(now)), draw.randrange(len(now))
        if (one, other) not in plain_cuts(now):
            self.fails_and_stays(CannotCut, desk, desk.cut, one, other)
        goal = draw.choice(near_goals(now, "abc"))
        if goal not in plain_goals(now):
            self.fails_and_stays(BadGoal, desk, desk.change, goal)
        value, place = draw.choice(NO_FILMS)
        self.fails_and_stays(BadFilm, desk, desk.change, value, place=place)

    def test_drawn_steps(self):
        draw = random.Random(431)
        films = films_of("ab", 4, 6)[::5] + some_films("ab", (7, 8, 9), 12, 432) + some_films("abc", (7, 9), 25, 433)
        for film in films + some_films("abcd", (9, 10), 12, 434) + some_films(ALL, (9, 10), 8, 435):
            self.draw_steps(film, draw, 14)

    def test_to_the_goal_by_best_cuts(self):
        draw = random.Random(436)
        for film in some_films("ab", (9, 10), 10, 437) + some_films("abc", (9,), 20, 438):
            for goal in draw.sample(plain_outcomes(film), min(4, len(plain_outcomes(film)))):
                desk = Desk(film, goal)
                left = plain_left(film, goal)
                for cuts_ahead in range(left):
                    self.same([desk.left(), desk.undoable], [left - cuts_ahead, cuts_ahead])
                    desk.cut(*draw.choice(desk.best()))
                self.same(self.told(desk), [goal, goal, left, True, 0, (), ()])

    def test_a_goal_that_cannot_come_any_more(self):
        desk = Desk("abcabd", "abcabd")
        desk.cut(0, 3)
        self.same(self.told(desk), ["abd", "abcabd", 1, False, None, (), ()])
        self.fails_and_stays(BadGoal, desk, desk.change, "abcabd")
        desk.change("abd")
        self.same(self.told(desk), ["abd", "abd", 1, True, 0, (), ()])
        desk.undo()
        self.same(self.told(desk), ["abcabd", "abd", 0, True, 1, ((0, 3), (1, 4)), ((0, 3), (1, 4))])
        desk = Desk("aaab", "aab")
        desk.cut(0, 2)
        desk.undo()
        desk.cut(0, 1)
        self.same(self.told(desk), ["aab", "aab", 1, True, 0, (), ()])
        desk.cut(0, 1)
        self.same(self.told(desk), ["ab", "aab", 2, False, None, (), ()])
        # The goal is kept when cuts are taken back, and the cuts when the goal is another one.
        desk.undo()
        self.same(self.told(desk), ["aab", "aab", 1, True, 0, (), ()])
        desk.change("ab")
        desk.undo()
        self.same(self.told(desk), ["aaab", "ab", 0, True, 1, ((0, 1), (0, 2), (1, 2)), ((0, 2),)])

    def test_open_desk_with_cuts_that_lead_nowhere(self):
        desk = Desk("abacb", "acb")
        self.same([desk.good(), desk.best()], [((0, 2),), ((0, 2),)])
        desk.change("ab")
        self.same([desk.good(), desk.best()], [((1, 4),), ((1, 4),)])
        desk.cut(0, 2)
        self.same(self.told(desk), ["acb", "ab", 1, False, None, (), ()])

    def test_two_desks(self):
        one, other = Desk("aab", "ab"), Desk("aab", "ab")
        one.cut(0, 1)
        self.same([one.now, one.undoable, other.now, other.undoable], ["ab", 1, "aab", 0])
        other.change("aab")
        self.same([one.goal, other.goal], ["ab", "aab"])

    def test_one_letter(self):
        desk = Desk("h", "h")
        self.same(self.told(desk), ["h", "h", 0, True, 0, (), ()])
        self.fails_and_stays(CannotCut, desk, desk.cut, 0, 0)
        self.fails_and_stays(BadPlace, desk, desk.cut, 0, 1)


class LongFilms(DeskCase):

    def test_good_and_best(self):
        films = LONG_FILMS + ("aabb" * 50,) + tuple(some_films("ab", (200,), 1, 439) + some_films(ALL, (200,), 2, 440))
        for film in films:
            for goal in (film[0] + film[film.rfind(film[0]) + 1:], film, plain_cut(film, plain_cuts(film)[100])):
                self.check(film, goal)

    def check(self, film, goal):
        desk = Desk(film, goal)
        left = fewest_cuts(film, goal)
        self.same([desk.now, desk.goal, desk.undoable, desk.is_open(), desk.left()], [film, goal, 0, True, left])
        good, best = desk.good(), desk.best()
        self.same([good, best], [tuple(sorted(set(good))), tuple(sorted(set(best)))])
        pairs = plain_cuts(film)
        for pair in pairs[::max(1, len(pairs) // 60)] + list(best[:3] + good[-3:]):
            behind = plain_cut(film, pair)
            self.same(pair in good, comes(behind, goal), film, goal, pair)
            self.same(pair in best, comes(behind, goal) and fewest_cuts(behind, goal) + 1 == left, film, goal, pair)

    def test_all_cuts_of_films_of_like_letters(self):
        film = "a" * 200
        desk = Desk(film, "a" * 150)
        self.same(desk.good(), tuple(pair for pair in plain_cuts(film) if pair[1] - pair[0] <= 50))
        self.same(desk.best(), tuple(pair for pair in plain_cuts(film) if pair[1] - pair[0] == 50))
        desk = Desk("ab" * 100, "ab")
        self.same(len(desk.good()), len(plain_cuts("ab" * 100)))
        self.same(desk.best(), ((0, 198), (1, 199)))

    def test_as_many_cuts_as_there_can_be(self):
        desk = Desk("a" * 200, "a")
        for many in range(199):
            self.same([desk.undoable, desk.left(), len(desk.now)], [many, 1, 200 - many])
            desk.cut(0, 1)
        self.same(self.told(desk), ["a", "a", 199, True, 0, (), ()])
        for many in range(199):
            desk.undo()
        self.same([desk.now, desk.undoable], ["a" * 200, 0])
        self.fails_and_stays(NothingToUndo, desk, desk.undo)


class WrongValues(DeskCase):

    def test_no_films(self):
        for goal in ("a", "xa", None, "h"):
            self.fails_for_no_film(BadFilm, Desk, behind=(goal,))
        for film in ("a", "aab", "ab" * 20):
            self.fails_for_no_film(BadFilm, Desk, ahead=(film,))
            desk = Desk(film, film)
            for value, place in NO_FILMS:
                self.fails_and_stays(BadFilm, desk, desk.change, value, place=place)

    def test_no_goals(self):
        for film, goal in (("a", "b"), ("a", "aa"), ("ab", "ba"), ("ab", "a"), ("abab", "a"), ("a", "h" * 200)):
            self.fails(BadGoal, Desk, film, goal)
            desk = Desk(film, film)
            self.fails_and_stays(BadGoal, desk, desk.change, goal)

    def test_places(self):
        desk = Desk("aabab", "ab")
        for value in NO_PLACES + (5, -5):
            self.fails_and_stays(BadPlace, desk, desk.cut, value, 1)
            self.fails_and_stays(BadPlace, desk, desk.cut, 0, value)
            self.fails_and_stays(BadPlace, desk, desk.cut, value, value)
        desk.cut(0, 3)
        # The places are those of the film as it is.
        self.same(desk.now, "ab")
        self.fails_and_stays(BadPlace, desk, desk.cut, 0, 2)
        self.fails_and_stays(BadPlace, desk, desk.cut, 3, 0)
        desk.undo()
        for first, second in ((1, 0), (0, 0), (4, 4), (3, 0), (0, 2), (0, 4), (4, 0), (4, 2)):
            self.fails_and_stays(CannotCut, desk, desk.cut, first, second)

    def test_undo(self):
        desk = Desk("aab", "ab")
        self.fails_and_stays(NothingToUndo, desk, desk.undo)
        desk.cut(0, 1)
        desk.undo()
        self.fails_and_stays(NothingToUndo, desk, desk.undo)
