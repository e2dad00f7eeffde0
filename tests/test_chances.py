"""Point 22: drawn cuts and their chances."""

from fractions import Fraction
from functools import lru_cache
from math import gcd

from jumpcuts.chances import (
    chances_behind, last_chances, mean_cuts, mean_last_length, mean_length, visit_chance,
)
from jumpcuts.errors import BadFilm, BadNumber, TooLong
from jumpcuts.outcomes import last_outcomes

from tests.plain import NO_INTEGERS, PlainCase, near_goals, plain_cut, plain_cuts, plain_outcomes, some_films
from tests.test_order import large_films, order_films

OF_ONE = (mean_cuts, mean_last_length, last_chances)


def pair(value):
    value = Fraction(value)
    return (value.numerator, value.denominator)


@lru_cache(maxsize=None)
def chances_of_steps(film, steps):
    """The films that are there behind so many drawn cuts, or behind the last one, with their chances."""
    drawn = plain_cuts(film)
    if not drawn or not steps:
        return {film: Fraction(1)}
    found = {}
    for each in drawn:
        for end, chance in chances_of_steps(plain_cut(film, each), steps - 1).items():
            found[end] = found.get(end, 0) + chance / len(drawn)
    return found


@lru_cache(maxsize=None)
def plain_visit(film, goal):
    if film == goal:
        return Fraction(1)
    drawn = plain_cuts(film)
    return sum((plain_visit(plain_cut(film, each), goal) for each in drawn), Fraction(0)) / max(1, len(drawn))


@lru_cache(maxsize=None)
def plain_mean_cuts(film):
    drawn = plain_cuts(film)
    if not drawn:
        return Fraction(0)
    return 1 + sum(plain_mean_cuts(plain_cut(film, each)) for each in drawn) / len(drawn)


class Chances(PlainCase):

    def is_ratio(self, value):
        top, low = value
        self.same([type(value), type(top), type(low), gcd(top, low), low > 0, top >= 0],
                  [tuple, int, int, 1, True, True], value)

    def check_steps(self, film, steps):
        chances = chances_of_steps(film, steps)
        found = chances_behind(film, steps)
        self.same(found, tuple((end, pair(chances[end])) for end in sorted(chances)), film, steps)
        self.same(sum(Fraction(*chance) for _, chance in found), Fraction(1))
        mean = sum(len(end) * chance for end, chance in chances.items())
        self.same(mean_length(film, steps), pair(mean), film, steps)
        for _, chance in found:
            self.is_ratio(chance)
        self.is_ratio(mean_length(film, steps))

    def check(self, film):
        self.same(mean_cuts(film), pair(plain_mean_cuts(film)), film)
        ends = chances_of_steps(film, 200)
        self.same(last_chances(film), tuple((end, pair(ends[end])) for end in sorted(ends)), film)
        self.same([end for end, _ in last_chances(film)], last_outcomes(film), film)
        self.same(sum(Fraction(*chance) for _, chance in last_chances(film)), Fraction(1))
        self.same(mean_last_length(film), pair(sum(len(end) * chance for end, chance in ends.items())), film)
        self.is_ratio(mean_cuts(film))
        self.is_ratio(mean_last_length(film))

    def test_ends_and_steps(self):
        for film in order_films():
            self.check(film)
            for steps in range(len(film) + 1):
                self.check_steps(film, min(steps, 14))
            self.check_steps(film, 14)

    def test_visits(self):
        for film in order_films():
            good = plain_outcomes(film)
            for goal in good + near_goals(film, "abc")[:30] + ["h" * 200, film + "a"]:
                found = visit_chance(film, goal)
                self.same(found, pair(plain_visit(film, goal)), film, goal)
                self.same(found == (0, 1), goal not in good)
                self.is_ratio(found)
            self.same(visit_chance(film, film), (1, 1))

    def test_films_of_14_letters(self):
        for film in large_films():
            self.check(film)
            for steps in (0, 1, 2, 5, 13, 14):
                self.check_steps(film, steps)
            for goal in plain_outcomes(film)[::20] + [film, film[0] + film[-1], "h", "a" * 200]:
                self.same(visit_chance(film, goal), pair(plain_visit(film, goal)), film, goal)

    def test_small(self):
        self.same([visit_chance("a", "a"), visit_chance("a", "b"), visit_chance("a", "aa")], [(1, 1), (0, 1), (0, 1)])
        self.same([mean_cuts("a"), mean_last_length("a"), last_chances("a")], [(0, 1), (1, 1), (("a", (1, 1)),)])
        self.same([chances_behind("a", 0), chances_behind("a", 14)], [(("a", (1, 1)),)] * 2)
        self.same([chances_behind("aa", 0), chances_behind("aa", 1)], [(("aa", (1, 1)),), (("a", (1, 1)),)])
        self.same([mean_length("aa", 0), mean_length("aa", 1), mean_length("aa", 14)], [(2, 1), (1, 1), (1, 1)])
        self.same([mean_cuts("aa"), mean_cuts("abcdefgh")], [(1, 1), (0, 1)])

    def test_films_of_one_letter(self):
        # Of k letters a any number from 1 to k - 1 is left, i letters by i of the cuts.
        for size in range(2, 15):
            chances = chances_behind("a" * size, 1)
            low = size * (size - 1) // 2
            self.same(chances, tuple(("a" * left, pair(Fraction(left, low))) for left in range(1, size)))


class WrongValues(PlainCase):

    def test_no_films(self):
        for call in OF_ONE:
            self.fails_for_no_film(BadFilm, call)
        self.fails_for_no_film(BadFilm, visit_chance, behind=("a",))
        self.fails_for_no_film(BadFilm, visit_chance, ahead=("a",))
        self.fails_for_no_film(BadFilm, visit_chance, ahead=("a" * 15,))
        self.fails(BadFilm, visit_chance, "abi", "xa", place=2)
        for call in (chances_behind, mean_length):
            for steps in (0, -1, None):
                self.fails_for_no_film(BadFilm, call, behind=(steps,))

    def test_steps(self):
        for value in NO_INTEGERS + (-1, 15, 200, 10 ** 30):
            for film in ("a", "aab", "a" * 14, "a" * 15, "ab" * 100):
                self.fails(BadNumber, chances_behind, film, value)
                self.fails(BadNumber, mean_length, film, value)
        for steps in (0, 14):
            self.same(mean_length("a", steps), (1, 1))

    def test_too_long(self):
        for film in ("a" * 15, "abcdefghabcdefg", "ab" * 100):
            for call in OF_ONE:
                self.fails(TooLong, call, film, most=14)
            for goal in (film, "a", "h" * 200):
                self.fails(TooLong, visit_chance, film, goal, most=14)
            for steps in (0, 14):
                self.fails(TooLong, chances_behind, film, steps, most=14)
                self.fails(TooLong, mean_length, film, steps, most=14)

    def test_some_more_films(self):
        for film in some_films("abcde", (11, 12), 5, 211):
            self.same(sum(Fraction(*chance) for _, chance in last_chances(film)), Fraction(1))
