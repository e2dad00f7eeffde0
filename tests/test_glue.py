"""Point 30: letters renamed, films joined, repeated and squeezed, runs, inner letters and pairs."""

import random
from itertools import groupby, permutations

from jumpcuts.errors import BadFilm, BadNames, BadNumber, TooLong
from jumpcuts.glue import (
    alike, inner_letters, joined, joins_freely, pairs_of, plain, renamed, repeated, runs, squeezed,
)
from jumpcuts.outcomes import count_outcomes

from tests.plain import (
    LONG_FILMS, NO_INTEGERS, PlainCase, films_of, near_goals, partings_by_goal, plain_blocks, plain_goals, some_films,
)

ALL = "abcdefgh"
NO_NAMES = (
    None, True, False, 0, 8, "", "a", "abcdefg", "abcdefgg", "abcdefgi", "aabcdefg", "Abcdefgh", "abcdefghh",
    "abcdefgha", "abcdefgh ", " abcdefgh", "abcdefg\u04bb", "hgfedcb", "a" * 8, (), tuple("abcdefgh"), ("abcdefgh",),
    [], list("abcdefgh"), {}, {letter: letter for letter in "abcdefgh"}, "abcdefgh" * 2, "abcdefgh" * 25,
)


def many_films():
    films = films_of("ab", 1, 7) + films_of("abc", 1, 4) + some_films("abcd", (5, 7, 9), 60, 391)
    return films + some_films(ALL, (3, 8, 12, 20), 60, 392) + ["h", "hh", "hgfedcba", "abcdefghh"]


def long_films():
    return list(LONG_FILMS) + some_films("ab", (200,), 2, 393) + some_films(ALL, (200,), 2, 394) + ["h" * 200]


def plain_runs(film):
    return tuple((letter, len(list(alike_ones))) for letter, alike_ones in groupby(film))


class Names(PlainCase):

    def test_renamed(self):
        draw = random.Random(395)
        for film in many_films() + long_films():
            for _ in range(3):
                names = "".join(draw.sample(ALL, 8))
                got = renamed(film, names)
                self.same([len(got), all(got[at] == names[ord(film[at]) - ord("a")] for at in range(len(film)))],
                          [len(film), True], film, names)
                back = "".join(ALL[names.index(letter)] for letter in ALL)
                self.same(renamed(got, back), film, film, names)
            self.same(renamed(film, ALL), film)
        for names in list(permutations(ALL))[::1009]:
            self.same(renamed(ALL, "".join(names)), "".join(names))
        self.same(renamed("a" * 200, "hgfedcba"), "h" * 200)

    def test_plain(self):
        for film in many_films() + long_films():
            seen = list(dict.fromkeys(film))
            self.same(plain(film), "".join("abcdefgh"[seen.index(letter)] for letter in film), film)
            self.same(plain(plain(film)), plain(film))
            self.same(plain(renamed(film, "cdbahgfe")), plain(film))
        self.same([plain("h"), plain("hgfedcba"), plain("bab"), plain("b" * 200)], ["a", ALL, "aba", "a" * 200])

    def test_alike(self):
        small = films_of("abc", 1, 3) + ["abca", "bcab", "abcb", "hgfh"]
        every = ["".join(names) for names in permutations("abch")]
        for one in small:
            changed = {"".join(names["abch".index(letter)] for letter in one) for names in every if "h" not in one}
            for other in small:
                if "h" not in one and "h" not in other and "g" not in other:
                    self.same(alike(one, other), other in changed, one, other)
        self.same([alike("abca", "hgfh"), alike("abcb", "hgfh"), alike("a", "aa"), alike("h", "a")],
                  [True, False, False, True])
        for film in long_films():
            self.same([alike(film, renamed(film, "hgfedcba")), alike(film, film[:-1])], [True, False])


class Joined(PlainCase):

    def test_joined(self):
        films = films_of("ab", 1, 3) + ["h", "cde"] + some_films(ALL, (5, 9), 5, 396)
        for one in films:
            for other in films:
                self.same(joined(one, other), "".join([one, other]))
                self.same(joins_freely(one, other), not set(one) & set(other), one, other)
        for size in (1, 100, 199):
            one, other = "a" * size, "bc" * 100
            self.same(joined(one, other[:200 - size]), one + other[:200 - size])
            self.fails(TooLong, joined, one, other[:201 - size], most=200)
            self.fails(TooLong, joined, other[:201 - size], one, most=200)
        for film in long_films():
            for other in ("a", film):
                self.fails(TooLong, joined, film, other, most=200)
                self.fails(TooLong, joined, other, film, most=200)
                self.same(joins_freely(film, other), not set(film) & set(other))
                self.same(joins_freely(other, film), not set(film) & set(other))
        self.same([joins_freely("a" * 200, "bcdefgh"), joins_freely("bcdefgh", "h" * 200)], [True, False])

    def test_outcomes_of_what_is_joined_freely(self):
        # No block goes over the border of two films that have no letter in common.
        for one, other in zip(some_films("ab", (6, 9), 10, 397), some_films("cd", (6, 9), 10, 398)):
            self.same(joins_freely(one, other), True)
            self.same(count_outcomes(joined(one, other)), count_outcomes(one) * count_outcomes(other))

    def test_repeated(self):
        for film in films_of("ab", 1, 3) + ["h", "abcdefgh"]:
            for times in (1, 2, 3, 200 // len(film)):
                got = repeated(film, times)
                self.same(got, "".join([film] * times))
            if 200 // len(film) < 200:
                self.fails(TooLong, repeated, film, 200 // len(film) + 1, most=200)
                self.fails(TooLong, repeated, film, 200, most=200)
        self.same([repeated("a", 200), repeated("ab" * 100, 1), repeated("ab", 100)],
                  ["a" * 200, "ab" * 100, "ab" * 100])
        for film, times in (("ab" * 100, 2), ("ab", 101), ("a" * 101, 2), ("a" * 67, 3), ("abc", 67), ("aa", 200)):
            self.fails(TooLong, repeated, film, times, most=200)
        self.same([len(repeated("abc", 66)), len(repeated("a" * 66, 3)), repeated("a" * 100, 2)],
                  [198, 198, "a" * 200])


class Runs(PlainCase):

    def test_runs_and_squeezed(self):
        for film in many_films() + long_films():
            self.same(runs(film), plain_runs(film), film)
            self.same(squeezed(film), "".join(letter for letter, _ in plain_runs(film)), film)
        self.same([runs("a" * 200), squeezed("a" * 200)], [(("a", 200),), "a"])
        self.same([len(runs("ab" * 100)), squeezed("ab" * 100)], [200, "ab" * 100])
        self.same([runs("h"), squeezed("hh"), runs("abba")], [(("h", 1),), "h", (("a", 1), ("b", 2), ("a", 1))])


class Goals(PlainCase):

    def test_inner_letters(self):
        for film in films_of("ab", 1, 6) + some_films("abc", (4, 6, 8), 60, 399) + some_films(ALL, (9, 11), 30, 400):
            for goal in near_goals(film, "ab"):
                wanted = "".join(sorted(set(film) - set(goal))) if goal in plain_goals(film) else None
                self.same(inner_letters(film, goal), wanted, film, goal)
        self.same([inner_letters("a", "a"), inner_letters("a", "b"), inner_letters("a", "aa")], ["", None, None])
        for film in long_films():
            self.same(inner_letters(film, film), "")
            self.same(inner_letters(film, film[:-1] + ("b" if film[-1] == "a" else "a")), None)
            again = film.rfind(film[0])
            self.same(inner_letters(film, film[0] + film[again + 1:]),
                      "".join(sorted(set(film) - set(film[0] + film[again + 1:]))))
        self.same(inner_letters("hgfedcba" * 24 + "hgfedcbh", "h"), "abcdefg")

    def test_pairs_of(self):
        for film in films_of("ab", 1, 8) + films_of("abc", 1, 4) + some_films("abcd", (6, 8, 10), 40, 401):
            self.check_pairs(film)
        for film in some_films(ALL, (8, 11), 20, 402):
            self.check_pairs(film)
        for film in long_films():
            self.same(pairs_of(film), sorted({one + other for one, other in zip(film, film[1:])}))
        self.same([pairs_of("a"), pairs_of("aa"), pairs_of("ba"), pairs_of("a" * 200)], [[], ["aa"], ["ba"], ["aa"]])
        self.gives_new_list(pairs_of, "aba")
        self.gives_new_list(pairs_of, "a")

    def check_pairs(self, film):
        found = set()
        for partings in partings_by_goal(film).values():
            for parting in partings:
                letters = "".join(block[0] for block in plain_blocks(film, parting))
                found.update(letters[at:at + 2] for at in range(len(letters) - 1))
        self.same(pairs_of(film), sorted(found), film)


class WrongValues(PlainCase):

    def test_no_films(self):
        for call in (plain, squeezed, runs, pairs_of):
            self.fails_for_no_film(BadFilm, call)
        for call in (alike, joined, joins_freely, inner_letters):
            for other in ("a", "ab" * 100):
                self.fails_for_no_film(BadFilm, call, behind=(other,))
                self.fails_for_no_film(BadFilm, call, ahead=(other,))
            self.fails(BadFilm, call, "abi", "xa", place=2)
            self.fails(BadFilm, call, "a" * 201, "xa", place=None)
        for names in (ALL, "abc", None):
            self.fails_for_no_film(BadFilm, renamed, behind=(names,))
        for times in (1, 200, 0, 201, None):
            self.fails_for_no_film(BadFilm, repeated, behind=(times,))

    def test_names(self):
        for value in NO_NAMES:
            for film in ("a", "h", "ab" * 100):
                self.fails(BadNames, renamed, film, value)

    def test_times(self):
        for value in NO_INTEGERS + (0, -1, 201, 10 ** 30):
            for film in ("a", "ab", "ab" * 100):
                self.fails(BadNumber, repeated, film, value)
