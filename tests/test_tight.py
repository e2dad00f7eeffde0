"""Point 10: tight cuts."""

from jumpcuts.cuts import play
from jumpcuts.errors import BadCuts, BadFilm, TooLong
from jumpcuts.tight import fewest_tight, is_tight_row, tight_cuts, tight_next, tight_numbers, tight_row

from tests.plain import (
    LONG_FILMS, PlainCase, films_of, numbers_by_goal, pairs, plain_cut, plain_rows, plain_tight_cuts, some_films,
)

FILMS = films_of("ab", 1, 7) + films_of("abc", 1, 5) + some_films("abcdefgh", (8, 20, 100), 30, 51) + list(LONG_FILMS)
NO_ROWS = (
    None, True, False, 0, 5, "", "ab", [], [(0, 1)], {}, {0: (0, 1)}, (0, 1), (None,), (5,), ("01",), ((0, 1, 2),),
    ((0,),), ([0, 1],), ((0, None),), ((False, 1),), ((0, True),), ((0, "1"),), ((1, 0),), ((0, 0),), ((0, 2),),
    ((0, 9),), ((-1, 0),), ((-3, -2),), (((0, 1),),), ((0, 1), (0, 2)), ((0, 1), (1, 2)), ((0, 1), None),
    ((0, 1), (0, 1), (0, 1)), ({},),
)


class Tight(PlainCase):

    def test_tight_cuts(self):
        self.same(tight_cuts("a"), ())
        self.same(tight_cuts("abab"), ((0, 2), (1, 3)))
        self.same(tight_cuts("a" * 200), tuple((place, place + 1) for place in range(199)))
        for film in FILMS:
            self.same(tight_cuts(film), tuple(sorted(plain_tight_cuts(film))), film)

    def test_tight_next(self):
        self.same(tight_next("abc"), [])
        self.same(tight_next("a" * 200), ["a" * 199])
        for film in FILMS:
            self.same(tight_next(film), sorted({plain_cut(film, pair) for pair in plain_tight_cuts(film)}), film)
        self.gives_new_list(tight_next, "aabab")
        self.gives_new_list(tight_next, "a")

    def test_rows(self):
        for film in films_of("ab", 1, 5) + ["abcabc", "aabbab", "abacab"]:
            tight = {rows: end for rows, end in plain_rows(film, plain_tight_cuts)}
            for rows, _ in plain_rows(film):
                self.same(is_tight_row(film, rows), rows in tight, film, rows)
                if rows in tight:
                    self.same(tight_row(film, rows), tight[rows], film, rows)
                else:
                    self.fails(BadCuts, tight_row, film, rows, index=None)

    def test_long_rows(self):
        self.same(tight_row("a" * 200, ((0, 1),) * 199), "a")
        self.same(is_tight_row("a" * 200, ((0, 1),) * 199), True)
        self.same(is_tight_row("a" * 200, ((0, 1),) * 200), False)
        self.same(is_tight_row("a" * 200, ((0, 199),)), False)
        self.same(tight_row("ab" * 100, ((1, 3),) * 99), "ab")
        self.same(tight_row("abcdefgh" * 25, ((7, 15),) * 24), "abcdefgh")

    def test_values_that_are_no_row(self):
        self.same(is_tight_row("aaa", ((0, 1), (0, 1))), True)
        self.same(is_tight_row("aaa", ()), True)
        self.same(tight_row("aaa", ()), "aaa")
        for value in NO_ROWS:
            kept = repr(value)
            self.same(is_tight_row("aaa", value), False, value)
            self.fails(BadCuts, tight_row, "aaa", value, index=None)
            self.assertEqual(repr(value), kept)

    def test_a_cut_that_is_tight_only_later(self):
        self.same(is_tight_row("abaca", ((0, 4),)), False)
        self.same(is_tight_row("abaca", ((0, 2), (0, 2))), True)
        self.same(tight_row("abaca", ((2, 4), (0, 2))), "a")
        self.same(play("abaca", ((0, 4),)), "a")


class Numbers(PlainCase):

    def test_fewest_and_numbers(self):
        for film, goal in pairs():
            wanted = numbers_by_goal(film, True).get(goal, set())
            self.same(fewest_tight(film, goal), min(wanted, default=None), film, goal)
            self.same(tight_numbers(film, goal), tuple(sorted(wanted)), film, goal)

    def test_films_of_some_more_letters(self):
        films = some_films("ab", (12, 13, 14), 4, 52) + some_films("abc", (12, 13, 14), 8, 53)
        films += some_films("abcd", (13, 14), 6, 54) + ["a" * 14, "ab" * 7, "abcbabcbabcbab", "abbcacbacbabca"]
        for film in films:
            by_goal = numbers_by_goal(film, True)
            for goal in list(by_goal)[::7] + ["h", film + "a"]:
                wanted = by_goal.get(goal, set())
                self.same(fewest_tight(film, goal), min(wanted, default=None), film, goal)
                self.same(tight_numbers(film, goal), tuple(sorted(wanted)), film, goal)

    def test_small(self):
        self.same(fewest_tight("a", "a"), 0)
        self.same(fewest_tight("a", "b"), None)
        self.same(fewest_tight("aa", "a"), 1)
        self.same(tight_numbers("a", "a"), (0,))
        self.same(tight_numbers("a", "b"), ())
        self.same(fewest_tight("a" * 40, "a" * 200), None)
        self.same(tight_numbers("a" * 14, "a" * 200), ())

    def test_longest_films(self):
        self.same(fewest_tight("a" * 40, "a"), 39)
        self.same(fewest_tight("a" * 40, "a" * 20), 20)
        self.same(fewest_tight("ab" * 20, "ab"), 19)
        self.same(fewest_tight("abcdefgh" * 5, "abcdefgh"), 4)
        self.same(fewest_tight("a" + "b" * 38 + "a", "a"), 1)
        self.same(tight_numbers("a" + "b" * 12 + "a", "a"), tuple(range(1, 13)))
        self.same(tight_numbers("a" * 14, "a"), (13,))

    def test_too_long(self):
        for film in ("a" * 40, "ab" * 20, "abcdefgh" * 5):
            self.same(fewest_tight(film, film), 0)
            self.fails(TooLong, fewest_tight, film + "a", "a", most=40)
            self.fails(TooLong, fewest_tight, film + "a", "h", most=40)
        for film in ("a" * 14, "ab" * 7, "abcdefghabcdef"):
            self.same(tight_numbers(film, film), (0,))
            self.fails(TooLong, tight_numbers, film + "a", "a", most=14)
        self.fails(TooLong, tight_numbers, "a" * 200, "a", most=14)
        self.fails(TooLong, fewest_tight, "a" * 200, "a", most=40)

    def test_too_long_comes_last(self):
        self.fails(BadFilm, fewest_tight, "a" * 41, "ai", place=1)
        self.fails(BadFilm, tight_numbers, "a" * 15, None, place=None)
        self.fails(BadFilm, fewest_tight, "a" * 41 + "A", "a", place=41)
        self.same(fewest_tight("a", "a" * 41), None)
        self.same(tight_numbers("a", "a" * 15), ())


class WrongValues(PlainCase):

    def test_no_films(self):
        for call in (tight_cuts, tight_next):
            self.fails_for_no_film(BadFilm, call)
        for call in (fewest_tight, tight_numbers):
            self.fails_for_no_film(BadFilm, call, behind=("a",))
            self.fails_for_no_film(BadFilm, call, ahead=("a",))
            self.fails(BadFilm, call, "abi", "xi", place=2)
        for call in (is_tight_row, tight_row):
            self.fails_for_no_film(BadFilm, call, behind=((),))
            self.fails_for_no_film(BadFilm, call, behind=(None,))
