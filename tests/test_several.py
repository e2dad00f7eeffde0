"""Points 18 and 19: what several films have in common, what comes to several, and futures."""

import random

from jumpcuts.befores import count_common
from jumpcuts.errors import BadFilm, BadFilms, BadNumber, TooLong
from jumpcuts.outcomes import count_outcomes, outcomes, shortest
from jumpcuts.partings import comes
from jumpcuts.several import (
    all_common, count_all_common, count_befores_of_all, futures, shortest_all_common,
)

from tests.plain import (
    FILM_OF_5000, FILM_OF_5001, LONG_FILMS, NO_FILMS, NO_INTEGERS, NO_TUPLES_OF_FILMS, PlainCase, befores_of_all,
    common_goals, films_of, first_shortest, plain_goals, plain_outcomes, plain_steps, some_films,
)

ALL = "abcdefgh"


def plain_futures(film):
    """The places by their tails, these being worked out for the film from each place on."""
    by_tails = {}
    for place in range(len(film)):
        tails = tuple(goal[1:] for goal in plain_outcomes(film[place:]))
        by_tails.setdefault(tails, []).append(place)
    return tuple(sorted(tuple(alike) for alike in by_tails.values()))


def futures_of_sets(film):
    """The places by their tails, for films of any size: from the end on, those are put together that go on alike."""
    numbers = {}
    names = {}
    for place in reversed(range(len(film))):
        rest = film[place:]
        further = {}
        for letter in sorted(set(rest)):
            at = rest.find(rest[0] + letter)
            if at >= 0:
                further[letter] = names[place + at + 1]
        key = (rest[0] == rest[-1], tuple(sorted(further.items())))
        names[place] = numbers.setdefault(key, len(numbers))
    groups = {}
    for place in range(len(film)):
        groups.setdefault(names[place], []).append(place)
    return tuple(sorted(tuple(alike) for alike in groups.values()))


def films_with_like_ends(letters, sizes, many, seed):
    inner = some_films(letters, [size - 2 for size in sizes], many, seed)
    return tuple(letters[0] + film + letters[-1] for film in inner)


class Common(PlainCase):

    def check(self, films):
        good = common_goals(films)
        self.same(count_all_common(films), len(good), films)
        self.same(all_common(films), good, films)
        self.same(shortest_all_common(films), first_shortest(good), films)

    def test_small(self):
        small = films_of("ab", 1, 4)
        for one in small:
            self.check((one,))
            for other in small:
                self.check((one, other))
        draw = random.Random(171)
        films = films_of("ab", 4, 8) + some_films("abc", (3, 4, 6, 8, 9), 150, 172)
        alike = films_with_like_ends("ab", (5, 7, 9, 11), 80, 173) + films_with_like_ends("abc", (7, 9, 11), 60, 174)
        more = films_with_like_ends("abcd", (9, 11), 40, 175) + films_with_like_ends(ALL, (9, 11), 20, 176)
        for choice in (films, alike, more):
            for many in (1, 2, 3, 4):
                for _ in range(250):
                    self.check(tuple(draw.choice(choice) for _ in range(many)))

    def test_small_films(self):
        self.same([count_all_common(("a",)), all_common(("a",)), shortest_all_common(("a",))], [1, ["a"], "a"])
        for films in (("a", "b"), ("ab", "ab", "ab", "ba"), ("ab", "aab", "abb", "a")):
            self.same([count_all_common(films), all_common(films), shortest_all_common(films)], [0, [], None])
        for film in ("aabab", "abcacb", "aabbaabb"):
            for many in (1, 2, 3, 4):
                self.same(all_common((film,) * many), outcomes(film))
                self.same(shortest_all_common((film,) * many), shortest(film))

    def test_order_of_films_does_not_matter(self):
        films = films_with_like_ends("abc", (30, 40), 4, 177)
        wanted = count_all_common(films)
        for turned in (films[::-1], films[1:] + films[:1], films[2:] + films[:2], (films[1], films[0], *films[2:])):
            self.same([count_all_common(turned), shortest_all_common(turned)], [wanted, shortest_all_common(films)])

    def plain_count(self, films):
        """How many films come of all of some long ones, by the sets of places at which blocks can end."""
        steps = [plain_steps(film) for film in films]
        level = {(frozenset([0]),) * len(films): 1}
        total = 0
        while level:
            behind = {}
            for stops, many in level.items():
                if all(len(film) in each for film, each in zip(films, stops)):
                    total += many
                rows = [step[each] for step, each in zip(steps, stops)]
                for letter in rows[0]:
                    if all(letter in row for row in rows):
                        then = tuple(row[letter] for row in rows)
                        behind[then] = behind.get(then, 0) + many
            level = behind
        return total

    def test_long_films(self):
        for film in LONG_FILMS + ("aabb" * 50,):
            for many in (1, 2, 4):
                self.same(count_all_common((film,) * many), count_outcomes(film))
                self.same(shortest_all_common((film,) * many), shortest(film))
            if count_outcomes(film) <= 5000:
                self.same(all_common((film,) * 4), outcomes(film))
        groups = [("aab" * 66 + "ab", "ab" * 100, "abb" * 66 + "ab", "aabb" * 50),
                  films_with_like_ends(ALL, (200,), 4, 178), films_with_like_ends("abcd", (200,), 3, 179),
                  films_with_like_ends("abc", (60, 70), 4, 180), films_with_like_ends("ab", (200,), 2, 181),
                  films_with_like_ends("ab", (40, 45), 4, 182),
                  films_with_like_ends("abcdefg", (200,), 2, 183) + ("abcdefg" * 28,)]
        for films in groups:
            many = count_all_common(films)
            self.same(many, self.plain_count(films))
            least = shortest_all_common(films)
            self.same(least is None, many == 0)
            if many:
                self.assertTrue(all(comes(film, least) for film in films))
            if many <= 5000:
                found = all_common(films)
                self.same([len(found), found], [many, sorted(set(found))])
                self.assertTrue(all(comes(film, goal) for film in films for goal in found))
                self.same(first_shortest(found), least)
            else:
                self.fails(TooLong, all_common, films, most=5000)

    def test_four_rich_films_of_200_letters(self):
        films = films_with_like_ends("ab", (200,), 4, 184)
        many = count_all_common(films)
        self.assertGreater(many, 2 ** 64)
        self.assertLess(many, count_all_common(films[:3]))
        self.same(shortest_all_common(films), "ab")
        self.fails(TooLong, all_common, films, most=5000)
        none = films[:3] + (films[3][:-1] + "a",)
        self.same([count_all_common(none), all_common(none), shortest_all_common(none)], [0, [], None])

    def test_two_films(self):
        for one, other in zip(films_with_like_ends("ab", (200,), 3, 185), films_with_like_ends("ab", (200,), 3, 186)):
            self.same(count_all_common((one, other)), count_common(one, other))
            self.same(count_all_common((one, other, one)), count_common(one, other))

    def test_lists_of_5000_films_and_of_more(self):
        films = ("a" * 60 + "b" * 50 + "cc", "a" * 50 + "b" * 60 + "ccc", "a" * 70 + "b" * 70 + "c" * 4,
                 "a" * 50 + "b" * 50 + "cc")
        wanted = sorted("a" * i + "b" * j + "c" * k for i in range(1, 51) for j in range(1, 51) for k in (1, 2))
        self.same(all_common(films), wanted)
        self.same(all_common((FILM_OF_5000,)), outcomes(FILM_OF_5000))
        for films in ((FILM_OF_5001,), (FILM_OF_5001,) * 4, ("aabb" * 50, "aabb" * 49, "aabb" * 48)):
            self.fails(TooLong, all_common, films, most=5000)


class Before(PlainCase):

    def test_against_all_films(self):
        draw = random.Random(187)
        for letters, most in (("ab", 7), ("abc", 5)):
            goals = [goal for goal in films_of(letters, 1, 4)]
            alike = [goal for goal in goals if goal[0] == "a" and goal[-1] == "b"]
            groups = [tuple(draw.choice(chosen) for _ in range(many)) for many in (1, 2, 3, 4)
                      for chosen in (goals, alike, alike) for _ in range(10)]
            for size in range(1, most + 1):
                films = films_of(letters, size, size)
                for group in groups:
                    wanted = sum(1 for film in films if set(group) <= plain_goals(film))
                    self.same(count_befores_of_all(group, size, len(letters)), wanted, group, size)

    def test_longer_goals(self):
        draw = random.Random(188)
        for letters, size in (("ab", 12), ("abc", 6), (ALL, 5), ("bch", 4)):
            goals = films_with_like_ends(letters, (size - 1, size), 4, 189)
            for many in (1, 2, 3, 4):
                for kinds in (1, len(letters), 8):
                    wanted = befores_of_all(goals[:many], 15, ALL[:kinds])
                    for length in draw.sample(range(1, 16), 3) + [15]:
                        got = count_befores_of_all(goals[:many], length, kinds)
                        self.same(got, wanted[length - 1], goals[:many], length, kinds)

    def test_goals_of_12_letters_and_films_of_60(self):
        goals = films_with_like_ends("ab", (12,), 4, 190)
        self.same(count_befores_of_all(goals, 60, 2), befores_of_all(goals, 60, "ab")[-1])
        goals = films_with_like_ends(ALL, (12,), 2, 191)
        self.same(count_befores_of_all(goals, 60, 8), befores_of_all(goals, 60, ALL)[-1])
        goals = films_with_like_ends("abc", (12,), 4, 192)
        self.assertGreater(count_befores_of_all(goals, 60, 8), 2 ** 64)
        self.same(count_befores_of_all(goals, 11, 8), 0)
        self.same(count_befores_of_all(("a" * 12,) * 4, 60, 1), 1)
        self.same(count_befores_of_all(("a",) * 4, 60, 8), 8 ** 58)
        self.same(count_befores_of_all(("ab", "ba"), 60, 8), 0)


class Futures(PlainCase):

    def test_against_all_tails(self):
        for film in films_of("ab", 1, 9) + films_of("abc", 1, 5) + some_films("abc", (7, 9, 10), 60, 193):
            self.same(futures(film), plain_futures(film), film)
        for film in some_films("abcd", (8, 10, 12), 30, 194) + some_films(ALL, (10, 12), 20, 195):
            self.same(futures(film), plain_futures(film), film)

    def test_long_films(self):
        films = some_films("ab", (200,), 3, 196) + some_films(ALL, (200,), 3, 197)
        for film in [*LONG_FILMS, "aabb" * 50, *films]:
            found = futures(film)
            self.same(found, futures_of_sets(film), film)
            self.same(sorted(place for alike in found for place in alike), list(range(200)))
        self.same(futures("a" * 200), tuple((place,) for place in range(200)))
        self.same(futures("a" * 199 + "b"), tuple((place,) for place in range(200)))
        self.same(futures("a"), ((0,),))
        self.same(futures("ab"), ((0,), (1,)))
        self.same(futures("aab"), plain_futures("aab"))


class WrongValues(PlainCase):

    def test_no_films(self):
        for call, more in ((count_all_common, ()), (all_common, ()), (shortest_all_common, ()),
                           (count_befores_of_all, (1, 1)), (count_befores_of_all, (None, 9))):
            for value in NO_TUPLES_OF_FILMS:
                self.fails(BadFilms, call, value, *more)
            for value, place in NO_FILMS:
                self.fails(BadFilm, call, (value,), *more, place=place)
                self.fails(BadFilm, call, (value, "xa"), *more, place=place)
                self.fails(BadFilm, call, ("a", "ab", "b", value), *more, place=place)
                self.fails(BadFilm, call, ("a", value, None), *more, place=place)
                self.fails(BadFilm, call, ("a" * 13, value), *more, place=place)
            self.fails(BadFilm, call, (("a",),), *more, place=None)
        self.fails_for_no_film(BadFilm, futures)

    def test_numbers(self):
        for value in NO_INTEGERS + (0, -1, 61, 200, 10 ** 30):
            self.fails(BadNumber, count_befores_of_all, ("a",), value, 1)
            self.fails(BadNumber, count_befores_of_all, ("a",), value, 9)
            self.fails(BadNumber, count_befores_of_all, ("a" * 13,), value, 1)
        for value in NO_INTEGERS + (0, -1, 9, 10 ** 30):
            self.fails(BadNumber, count_befores_of_all, ("a",), 1, value)
            self.fails(BadNumber, count_befores_of_all, ("a", "a" * 13), 60, value)
        self.same(count_befores_of_all(("a",), 1, 1), 1)
        self.same(count_befores_of_all(("a",), 60, 1), 1)
        self.same(count_befores_of_all(("a",), 1, 8), 1)
        self.same(count_befores_of_all(("a",), 2, 8), 1)

    def test_too_long(self):
        for goals in (("a" * 13,), ("a" * 12, "a" * 13), ("a", "b", "c", "ab" * 100), ("a" * 200,) * 4):
            self.fails(TooLong, count_befores_of_all, goals, 1, 1, most=12)
            self.fails(TooLong, count_befores_of_all, goals, 60, 8, most=12)
        self.same(count_befores_of_all(("a" * 12,) * 4, 12, 8), 1)

    def test_new_lists(self):
        self.gives_new_list(all_common, ("abab", "aab"))
        self.gives_new_list(all_common, ("ab", "ba"))
        self.gives_new_list(all_common, ("aabab",))
