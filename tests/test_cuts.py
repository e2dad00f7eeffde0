"""Point 3: cuts, and rows of cuts."""

from jumpcuts.cuts import cut, cuts, films_on_the_way, kept_places, next_films, play
from jumpcuts.errors import BadCuts, BadFilm, BadPlace

from tests.plain import (
    LONG_FILMS, NO_INTEGERS, PlainCase, films_of, plain_cut, plain_cuts, plain_rows, some_films,
)

FILMS = films_of("ab", 1, 6) + films_of("abc", 1, 4) + some_films("abcdefgh", (7, 12, 20), 40, 21)
NO_ROWS = (None, True, False, 0, 5, "", "ab", "((0, 1),)", [], [(0, 2)], {}, {0: (0, 2)}, {(0, 2): 1})
NO_PAIRS = NO_INTEGERS + (
    3, (0, 1, 2), (0, 2, 0), [0, 2], "02", {0: 2}, ((0, 2),), (None, 2), (0, None), (False, 2), (0, True),
    ("0", 2), (0, "2"), ((0,), (2,)), ([0], [2]), ({}, {}), (2, 0), (0, 0), (2, 2), (0, 1), (1, 2), (-1, 2), (0, -1),
    (-3, -1), (0, 5), (2, 6), (0, 10 ** 30), (-10 ** 30, 0), (True, 3), (1, True),
)


def plain_kept(film, rows):
    """The places that are left, worked out with the places instead of the letters."""
    kept = list(range(len(film)))
    for first, second in rows:
        kept = [place for at, place in enumerate(kept) if not first < at <= second]
    return tuple(kept)


class Cuts(PlainCase):

    def test_cuts(self):
        self.same(cuts("a"), ())
        self.same(cuts("abcdefgh"), ())
        self.same(cuts("aba"), ((0, 2),))
        self.same(cuts("aaa"), ((0, 1), (0, 2), (1, 2)))
        for film in FILMS + list(LONG_FILMS):
            self.same(cuts(film), tuple(sorted(plain_cuts(film))), film)
        self.assertEqual(len(cuts("a" * 200)), 19900)

    def test_cut(self):
        self.same(cut("aa", 0, 1), "a")
        self.same(cut("abcab", 1, 4), "ab")
        self.same(cut("abacad", 2, 4), "abad")
        for film in FILMS:
            for first in range(len(film)):
                for second in range(len(film)):
                    good = (first, second) in plain_cuts(film)
                    self.same(cut(film, first, second), plain_cut(film, (first, second)) if good else None, film)

    def test_cut_of_long_films(self):
        self.same(cut("a" * 200, 0, 199), "a")
        self.same(cut("a" * 200, 199, 0), None)
        self.same(cut("ab" * 100, 1, 199), "ab")
        self.same(cut("abcdefgh" * 25, 7, 199), "abcdefgh")

    def test_next_films(self):
        self.same(next_films("a"), [])
        self.same(next_films("abc"), [])
        self.same(next_films("aaa"), ["a", "aa"])
        for film in FILMS:
            self.same(next_films(film), sorted({plain_cut(film, pair) for pair in plain_cuts(film)}), film)
        self.same(next_films("a" * 200), ["a" * size for size in range(1, 200)])
        self.assertEqual(len(next_films("abcdefgh" * 25)), len({plain_cut("abcdefgh" * 25, pair)
                                                                for pair in plain_cuts("abcdefgh" * 25)}))

    def test_kinds_of_values(self):
        self.gives_new_list(next_films, "aabab")
        self.gives_new_list(next_films, "ab")

    def test_wrong_values(self):
        self.fails_for_no_film(BadFilm, cuts)
        self.fails_for_no_film(BadFilm, next_films)
        self.fails_for_no_film(BadFilm, cut, behind=(0, 1))
        for value in NO_INTEGERS + (-1, 4, 10 ** 30):
            self.fails(BadPlace, cut, "abab", value, 2)
            self.fails(BadPlace, cut, "abab", 0, value)
            self.fails(BadPlace, cut, "abab", value, value)
            self.fails(BadFilm, cut, "abi", value, value, place=2)
        for first, second in ((0, 0), (2, 0), (0, 1), (3, 0)):
            self.same(cut("abab", first, second), None)


class Rows(PlainCase):

    def check_row(self, film, rows):
        way = [film]
        for pair in rows:
            way.append(plain_cut(way[-1], pair))
        self.same(play(film, rows), way[-1], film, rows)
        self.same(films_on_the_way(film, rows), tuple(way), film, rows)
        self.same(kept_places(film, rows), plain_kept(film, rows), film, rows)

    def test_no_cuts(self):
        for film in ("a", "ab", "abcdefgh", "aaa", "a" * 200):
            self.check_row(film, ())

    def test_all_rows_of_small_films(self):
        for film in films_of("ab", 1, 5) + films_of("abc", 3, 4) + ["abcabc", "abacaba", "aabbab"]:
            for rows, _ in plain_rows(film):
                self.check_row(film, rows)

    def test_long_films(self):
        self.check_row("a" * 200, ((0, 1),) * 199)
        self.check_row("a" * 200, ((0, 199),))
        self.check_row("ab" * 100, ((0, 2),) * 99)
        self.check_row("abcdefgh" * 25, ((3, 11),) * 24)
        self.check_row("aab" * 66 + "ab", ((0, 1), (2, 3), (1, 3)))

    def test_many_places_are_kept(self):
        self.same(kept_places("aabab", ((0, 1),)), (0, 2, 3, 4))
        self.same(kept_places("abcab", ()), (0, 1, 2, 3, 4))
        self.same(kept_places("a", ()), (0,))

    def test_spoilt_items(self):
        film = "abababa"
        good = ((0, 2), (1, 3), (0, 2))
        self.check_row(film, good)
        for index in range(len(good)):
            now = films_on_the_way(film, good)[index]
            for item in NO_PAIRS + ((0, len(now)), (len(now), len(now) + 2)):
                if repr(item) in map(repr, plain_cuts(now)):
                    continue
                spoilt = good[:index] + (item,) + good[index + 1:]
                for call in (play, films_on_the_way, kept_places):
                    self.fails(BadCuts, call, film, spoilt, index=index)

    def test_places_are_those_of_the_film_as_it_is_then(self):
        self.fails(BadCuts, play, "aaa", ((0, 1), (1, 2)), index=1)
        self.fails(BadCuts, play, "abcab", ((0, 3), (1, 4)), index=1)
        self.fails(BadCuts, play, "a" * 200, ((0, 1),) * 200, index=199)
        self.fails(BadCuts, kept_places, "aa", ((0, 1), (0, 1)), index=1)
        self.fails(BadCuts, films_on_the_way, "a", ((0, 0),), index=0)
        self.fails(BadCuts, play, "aba", ((0, 2), None, None), index=1)

    def test_no_tuple(self):
        for value in NO_ROWS:
            for call in (play, films_on_the_way, kept_places):
                self.fails(BadCuts, call, "abab", value, index=None)

    def test_the_film_comes_first(self):
        for call in (play, films_on_the_way, kept_places):
            self.fails_for_no_film(BadFilm, call, behind=((),))
            self.fails(BadFilm, call, "abi", None, place=2)
            self.fails(BadFilm, call, None, ((0, 1),), place=None)
