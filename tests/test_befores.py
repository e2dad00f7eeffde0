"""Points 15 and 16: films that come to a goal, and what two films have in common."""

import random

from jumpcuts.befores import (
    befores, befores_to, common, count_befores, count_common, longest_common, meets, shortest_before,
)
from jumpcuts.errors import BadFilm, BadNumber, TooLong
from jumpcuts.outcomes import count_outcomes, outcomes
from jumpcuts.partings import comes

from tests.plain import (
    FILM_OF_5000, FILM_OF_5001, LONG_FILMS, NO_INTEGERS, PlainCase, befores_of_all, blocks_read, common_goals,
    films_of, first_shortest, plain_goals, plain_outcomes, some_films,
)

ALL = "abcdefgh"


def plain_shortest_before(one, other):
    """The first of the shortest films that come to both of two, all films being gone through by their sizes."""
    level = {((frozenset(), frozenset([0])),) * 2: ""}
    seen = set(level)
    while level:
        behind = {}
        for states, word in level.items():
            for letter in ALL:
                then = tuple(blocks_read(goal, state, letter) for goal, state in zip((one, other), states))
                if all(begun for begun, _ in then) and then not in seen:
                    seen.add(then)
                    behind[then] = word + letter
        for (_, left), (_, right) in behind:
            if len(one) in left and len(other) in right:
                return min(word for ((_, left), (_, right)), word in behind.items()
                           if len(one) in left and len(other) in right)
        level = behind
    return None


class Before(PlainCase):

    def check(self, goals, letters, most):
        many = len(letters)
        for size in range(1, most + 1):
            films = films_of(letters, size, size)
            for goal in goals:
                good = [film for film in films if goal in plain_goals(film)]
                self.same(count_befores(goal, size, many), len(good), goal, size, many)
                self.same(befores_to(goal, size, many)[-1], len(good), goal, size, many)
                self.same(befores(goal, size, many), good, goal, size, many)

    def test_against_all_films(self):
        self.check(films_of("ab", 1, 5) + ["c", "ac", "h"], "ab", 8)
        self.check(films_of("abc", 1, 3) + some_films("abc", (4, 5, 6, 7), 20, 141), "abc", 6)
        self.check(films_of("ah", 1, 4), "a", 8)
        self.check(some_films("abcd", (1, 2, 3, 4, 5), 25, 142), "abcd", 5)
        self.check(["a", "h", "ah", "aha", "abh", "hgfe"], ALL, 4)

    def test_all_sizes(self):
        for goal in films_of("ab", 1, 4):
            wanted = tuple(sum(1 for film in films_of("ab", size, size) if goal in plain_goals(film))
                           for size in range(1, 8))
            for size in range(1, 8):
                self.same(befores_to(goal, size, 2), wanted[:size], goal, size)

    def test_goals_of_12_letters_and_films_of_200(self):
        goals = ["a" * 12, "ab" * 6, "abcdefghabcd", "aabbaabbaabb", "aaaaaaaaaaab"]
        for goal in goals + some_films("abc", (12,), 3, 143) + some_films(ALL, (11, 12), 3, 144):
            for many in (1, 2, 3, 8):
                wanted = befores_of_all((goal,), 200, ALL[:many])
                self.same(befores_to(goal, 200, many), tuple(wanted), goal, many)
                for size in (1, 11, 12, 13, 60, 200):
                    self.same(count_befores(goal, size, many), wanted[size - 1], goal, size, many)
        self.same(befores_to("a", 200, 8), (1,) + tuple(8 ** (size - 2) for size in range(2, 201)))
        self.same(befores_to("ab", 200, 2), (0,) + tuple(2 ** (size - 2) for size in range(2, 201)))
        self.same(befores_to("b", 200, 1), (0,) * 200)
        self.same(befores_to("a", 200, 1), (1,) * 200)

    def test_lists_of_many_films(self):
        self.same(befores("a" * 12, 12, 8), ["a" * 12])
        self.same(befores("abcdefghabcd", 12, 8), ["abcdefghabcd"])
        self.same(befores("abcdefghabcd", 12, 7), [])
        self.same(befores("a" * 12, 11, 8), [])
        self.same(len(befores("ababab", 11, 4)), 4992)
        found = befores("aa", 7, 7)
        good = [film for film in found if comes(film, "aa") and len(film) == 7]
        self.same([len(found), found == sorted(set(found)), len(good)], [4927, True, 4927])
        self.same(count_befores("aaaaaba", 11, 8), 5059)
        for values in (("aaaaaba", 11, 8), ("a", 12, 8), ("aa", 8, 7), ("ab", 12, 8)):
            self.fails(TooLong, befores, *values, most=5000)

    def test_shortest_before(self):
        films = [film for film in films_of("abcd", 1, 6) if film[0] in "bc"]
        befores_by_goal = {}
        for film in films:
            for goal in plain_goals(film):
                if len(goal) <= 3:
                    befores_by_goal.setdefault(goal, set()).add(film)
        goals = films_of("bc", 1, 3) + ["bdc", "bcd", "cdb", "bd", "bdb"]
        for one in goals:
            for other in goals:
                wanted = first_shortest(befores_by_goal.get(one, set()) & befores_by_goal.get(other, set()))
                self.same(shortest_before(one, other), wanted, one, other)

    def test_shortest_before_of_longer_films(self):
        draw = random.Random(145)
        for letters, size in (("ab", 12), ("abc", 12), ("abc", 7), ("bdh", 9), (ALL, 12), (ALL, 8), ("h", 12)):
            for _ in range(5):
                one, other = ["".join(draw.choice(letters) for _ in range(draw.randint(size - 2, size) - 2))
                              for _ in range(2)]
                one, other = letters[0] + one + letters[-1], letters[0] + other + letters[-1]
                found = shortest_before(one, other)
                self.same(found, plain_shortest_before(one, other), one, other)
                self.same([comes(found, one), comes(found, other)], [True, True])
                self.same(shortest_before(one, one), one)
                self.same(shortest_before(one, other[:-1] + "g"), None)
        self.same(shortest_before("ab", "ba"), None)
        self.same(shortest_before("a", "b"), None)
        self.same(shortest_before("a" * 12, "a"), "a" * 12)


class Common(PlainCase):

    def check(self, one, other):
        good = common_goals((one, other))
        self.same(count_common(one, other), len(good), one, other)
        self.same(common(one, other), good, one, other)
        self.same(meets(one, other), len(good) > 0, one, other)
        longest = min(good, key=lambda film: (-len(film), film), default=None)
        self.same(longest_common(one, other), longest, one, other)

    def test_small(self):
        for one in films_of("ab", 1, 5):
            for other in films_of("ab", 1, 5):
                self.check(one, other)
        draw = random.Random(146)
        films = films_of("ab", 6, 9) + some_films("abc", (4, 6, 8, 9, 10), 300, 147)
        for _ in range(1500):
            self.check(draw.choice(films), draw.choice(films))
        films = [film for film in films if film[0] == "a" and film[-1] == "b"]
        for _ in range(1000):
            self.check(draw.choice(films), draw.choice(films))
        films = some_films(ALL, (8, 9, 10), 40, 148) + some_films("abcd", (8, 9, 10), 60, 149)
        for _ in range(500):
            one, other = draw.choice(films), draw.choice(films)
            self.check(one, one[0] + other[1:-1] + one[-1])

    def test_long_films(self):
        films = list(LONG_FILMS) + ["aabb" * 50, "a" * 150 + "b" * 50] + some_films(ALL, (200,), 2, 150)
        films += ["a" + film + "b" for film in some_films("ab", (198,), 3, 151) + some_films("abc", (198,), 2, 152)]
        for one in films:
            self.same(count_common(one, one), count_outcomes(one))
            self.same([meets(one, one), longest_common(one, one)], [True, one])
            for other in films:
                many = count_common(one, other)
                self.same(count_common(other, one), many)
                self.same(meets(one, other), many > 0)
                longest = longest_common(one, other)
                self.same(longest_common(other, one), longest)
                self.same(longest is None, many == 0)
                if many:
                    self.same([comes(one, longest), comes(other, longest)], [True, True])
                if count_outcomes(one) <= 5000:
                    good = [film for film in outcomes(one) if comes(other, film)]
                    self.same([many, common(one, other)], [len(good), good])
        self.same(count_common("a" * 200, "a" * 150), 150)
        self.same(longest_common("a" * 200, "a" * 150), "a" * 150)
        self.same(count_common("a" * 100 + "b" * 100, "ab" * 100), 1)
        self.same(count_common("a" * 50 + "b" * 150, "a" * 150 + "b" * 50), 2500)
        self.same(longest_common("a" * 50 + "b" * 150, "a" * 150 + "b" * 50), "a" * 50 + "b" * 50)
        self.assertGreater(count_common("aabb" * 50, "aabb" * 49), 2 ** 64)

    def test_lists_of_5000_films_and_of_more(self):
        one, other = "a" * 60 + "b" * 50 + "cc", "a" * 50 + "b" * 60 + "ccc"
        wanted = sorted("a" * i + "b" * j + "c" * k for i in range(1, 51) for j in range(1, 51) for k in (1, 2))
        self.same(common(one, other), wanted)
        self.same(common(FILM_OF_5000, FILM_OF_5000), outcomes(FILM_OF_5000))
        for one, other in ((FILM_OF_5001, FILM_OF_5001), ("aabb" * 50, "aabb" * 49)):
            self.fails(TooLong, common, one, other, most=5000)
        self.fails(TooLong, common, "a" * 60 + "b" * 50 + "ccc", "a" * 50 + "b" * 60 + "ccc", most=5000)


class WrongValues(PlainCase):

    def test_no_films(self):
        for call in (count_befores, befores_to, befores):
            for more in ((1, 1), (0, 1), (None, None), (1, 9)):
                self.fails_for_no_film(BadFilm, call, behind=more)
        for call in (shortest_before, count_common, common, meets, longest_common):
            self.fails_for_no_film(BadFilm, call, behind=("a",))
            self.fails_for_no_film(BadFilm, call, ahead=("a",))
            self.fails(BadFilm, call, "abi", "xa", place=2)
            self.fails(BadFilm, call, None, "xa", place=None)

    def test_numbers(self):
        for call, most in ((count_befores, 200), (befores_to, 200), (befores, 12)):
            for value in NO_INTEGERS + (0, -1, most + 1, 201, 10 ** 30):
                self.fails(BadNumber, call, "a", value, 1)
                self.fails(BadNumber, call, "a", value, None)
                self.fails(BadNumber, call, "a" * 13, value, 1)
            for value in NO_INTEGERS + (0, -1, 9, 10 ** 30):
                self.fails(BadNumber, call, "a", 1, value)
                self.fails(BadNumber, call, "a", most, value)
                self.fails(BadNumber, call, "a" * 13, 1, value)
            for size in (1, most):
                call("a", size, 1)
            call("a", 1, 8)
        self.same([count_befores("a", 1, 8), count_befores("a", 200, 1), len(befores_to("a", 200, 1))], [1, 1, 200])
        self.same([befores("a", 1, 8), befores("a", 12, 1)], [["a"], ["a" * 12]])

    def test_too_long(self):
        for call, size in ((count_befores, 200), (befores_to, 200), (befores, 12)):
            for goal in ("a" * 13, "ab" * 100, "i" * 12 + "a", "h" * 200):
                if goal[0] == "i":
                    self.fails(BadFilm, call, goal, size, 8, place=0)
                else:
                    self.fails(TooLong, call, goal, size, 8, most=12)
                    self.fails(TooLong, call, goal, 1, 1, most=12)
            call("a" * 12, size, 8)
        self.fails(TooLong, befores, "ab" + "a" * 11, 12, 8, most=12)
        self.fails(TooLong, shortest_before, "a" * 13, "a" * 12, most=12)
        self.fails(TooLong, shortest_before, "a" * 12, "a" * 13, most=12)
        self.fails(TooLong, shortest_before, "a" * 13, "a" * 13, most=12)
        self.fails(TooLong, shortest_before, "b", "a" * 200, most=12)
        self.fails(BadFilm, shortest_before, "a" * 13, "i", place=0)
        self.fails(BadFilm, shortest_before, "a" * 13, "a" * 201, place=None)
        self.same(shortest_before("a" * 12, "a" * 12), "a" * 12)

    def test_new_lists(self):
        self.gives_new_list(befores, "ab", 4, 2)
        self.gives_new_list(befores, "ab", 1, 2)
        self.gives_new_list(common, "abab", "aab")
        self.gives_new_list(common, "ab", "ba")

    def test_outcomes_and_befores_agree(self):
        for film in films_of("ab", 1, 6):
            for goal in films_of("ab", 1, 5):
                self.same(film in befores(goal, len(film), 2), goal in plain_outcomes(film), film, goal)
