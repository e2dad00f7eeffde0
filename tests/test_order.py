"""Points 20 and 21: rows of cuts counted, the order of the outcomes, and the game of two players."""

from functools import lru_cache
from math import factorial

from jumpcuts.errors import BadFilm, BadNumber, TooLong
from jumpcuts.numbers import most_in_all
from jumpcuts.order import (
    between, count_all_rows, count_rows, covers, game_lengths, nim, order_height, row_numbers, sign_sum,
    winning_films, wins,
)
from jumpcuts.outcomes import count_outcomes, outcomes
from jumpcuts.partings import comes

from tests.plain import (
    LONG_FILMS, NO_INTEGERS, PlainCase, films_of, near_goals, plain_cut, plain_cuts, plain_outcomes, plain_rows,
    some_films,
)

RICH_FILMS = ("aabbaabbaabbaa", "ccaaccbbccaacc", "a" * 14, "ab" * 7, "abcdefghabcdef", "cccbbccddccfcc")
OF_ONE = (order_height, nim, wins, winning_films, game_lengths)
OF_TWO = (row_numbers, count_rows, between, sign_sum)


@lru_cache(maxsize=None)
def rows_by_goal(film):
    """For each film that comes of a film, by numbers of cuts, how many rows of so many cuts lead to it."""
    found = {film: {0: 1}}
    for pair in plain_cuts(film):
        for goal, counts in rows_by_goal(plain_cut(film, pair)).items():
            numbers = found.setdefault(goal, {})
            for number, many in counts.items():
                numbers[number + 1] = numbers.get(number + 1, 0) + many
    return found


@lru_cache(maxsize=None)
def plain_nim(film):
    taken = {plain_nim(plain_cut(film, pair)) for pair in plain_cuts(film)}
    return next(number for number in range(len(film) + 1) if number not in taken)


@lru_cache(maxsize=None)
def plain_games(film):
    """All numbers of cuts that a game can have."""
    if not plain_cuts(film):
        return frozenset([0])
    return frozenset(many + 1 for pair in plain_cuts(film) for many in plain_games(plain_cut(film, pair)))


def plain_covers(film):
    good = [goal for goal in plain_outcomes(film) if goal != film]
    return [goal for goal in good if all(other == goal or goal not in plain_outcomes(other) for other in good)]


def order_films():
    """Films of two letters up to a size, and many of three and more."""
    films = films_of("ab", 1, 7) + some_films("ab", (8, 9, 10), 20, 201) + some_films("abc", (4, 5, 6, 7, 8), 60, 202)
    return films + some_films("abcd", (8, 9), 20, 203) + some_films("abcdefgh", (9, 10), 15, 204) + ["h", "abcdefgh"]


def large_films():
    return list(RICH_FILMS) + some_films("ab", (13, 14), 3, 205) + some_films("abc", (13, 14), 3, 206) + [
        "abcdefgh" + "abcdef", "hgfedcbahgfedc"]


class Rows(PlainCase):

    def check_goal(self, film, goal):
        wanted = tuple(sorted(rows_by_goal(film).get(goal, {}).items()))
        self.same(row_numbers(film, goal), wanted, film, goal)
        self.same(count_rows(film, goal), sum(many for _, many in wanted), film, goal)

    def check(self, film):
        counts = rows_by_goal(film)
        highest = max(number for numbers in counts.values() for number in numbers)
        self.same(order_height(film), highest, film)
        self.same(order_height(film), most_in_all(film), film)
        for steps in range(15):
            wanted = sum(numbers.get(steps, 0) for numbers in counts.values())
            self.same(count_all_rows(film, steps), wanted, film, steps)

    def test_all_rows_one_by_one(self):
        for film in films_of("ab", 1, 5) + ["abcabc", "aabbab", "abacab"]:
            rows = plain_rows(film)
            for goal in near_goals(film, "ab"):
                numbers = [len(row) for row, end in rows if end == goal]
                wanted = tuple((number, numbers.count(number)) for number in sorted(set(numbers)))
                self.same(row_numbers(film, goal), wanted, film, goal)
                self.same(count_rows(film, goal), len(numbers), film, goal)
            for steps in range(15):
                self.same(count_all_rows(film, steps), sum(1 for row, _ in rows if len(row) == steps), film, steps)
            self.same(order_height(film), max(len(row) for row, _ in rows), film)

    def test_more_films(self):
        for film in order_films():
            self.check(film)
            goals = near_goals(film, "abc")
            for goal in [goal for goal in goals if goal in rows_by_goal(film)] + goals[:20] + ["h" * 200, film + "a"]:
                self.check_goal(film, goal)

    def test_films_of_14_letters(self):
        for film in large_films():
            self.check(film)
            for goal in plain_outcomes(film)[::7] + [film, film[0] + film[-1], "h", "a" * 200]:
                self.check_goal(film, goal)

    def test_small(self):
        self.same([row_numbers("a", "a"), count_rows("a", "a"), order_height("a")], [((0, 1),), 1, 0])
        self.same([row_numbers("a", "b"), count_rows("a", "b"), row_numbers("a", "aa")], [(), 0, ()])
        self.same([count_all_rows("a", 0), count_all_rows("a", 1), count_all_rows("a", 14)], [1, 0, 0])
        # Each of 13 cuts then cuts out one letter, between neighbors.
        self.same([order_height("a" * 14), count_all_rows("a" * 14, 13), count_all_rows("a" * 14, 14)],
                  [13, factorial(13), 0])


class Order(PlainCase):

    def test_covers(self):
        for film in order_films():
            self.same(covers(film), plain_covers(film), film)
        for film in RICH_FILMS[:3]:
            self.same(covers(film), plain_covers(film), film)

    def test_covers_of_long_films(self):
        self.same(covers("a" * 200), ["a" * 199])
        self.same(covers("ab" * 100), ["ab" * 99])
        self.same(covers("abcdefgh" * 25), ["abcdefgh" * 24])
        self.same(covers("abcdefgh"), [])
        films = [film for film in LONG_FILMS if count_outcomes(film) <= 5000] + ["aaaaabbbb" + "aba" * 3]
        for film in films:
            good = [goal for goal in outcomes(film) if goal != film]
            wanted = [goal for goal in good if not any(comes(other, goal) for other in good if other != goal)]
            self.same(covers(film), wanted, film)
        film = "a" * 40 + "b" * 60 + "c" * 100
        self.same(covers(film), sorted([film[1:], film[:-1], film[:50] + film[51:]]))
        for film in ("aabb" * 50, *some_films("ab", (200,), 1, 207), *some_films("abcdefgh", (200,), 1, 208)):
            found = covers(film)
            # What one cut makes is no cover only if it comes of one that is.
            for first, second in plain_cuts(film)[::97]:
                goal = plain_cut(film, (first, second))
                self.same(sum(1 for other in found if comes(other, goal)) > 0, True, film, goal)
            for goal in found:
                self.same([other for other in found if comes(other, goal)], [goal], film)

    def test_between(self):
        for film in order_films() + list(RICH_FILMS[:4]):
            good = plain_outcomes(film)
            for goal in good[::3] + [film, "h", film + "a", "a" * 200, film[::-1]]:
                wanted = [each for each in good if goal in plain_outcomes(each)] if goal in good else []
                self.same(between(film, goal), wanted, film, goal)

    def test_sign_sum(self):
        for film in order_films() + list(RICH_FILMS):
            good = plain_outcomes(film)
            self.same(sign_sum(film, film), 1)
            signs = {goal: sign_sum(film, goal) for goal in (good if len(good) < 60 else good[:1])}
            if len(signs) == len(good):
                for goal in good:
                    if goal != film:
                        total = sum(signs[each] for each in good if goal in plain_outcomes(each))
                        self.same(total, 0, film, goal)
            for goal in ("h" * 200, film + "a", film[::-1], "c"):
                if goal not in good:
                    self.same(sign_sum(film, goal), 0, film, goal)

    def test_sign_sums_of_a_film_of_14_letters(self):
        film = RICH_FILMS[0]
        good = sorted(plain_outcomes(film), key=lambda goal: -len(goal))
        signs = {film: 1}
        for goal in good[1:]:
            signs[goal] = -sum(sign for each, sign in signs.items() if goal in plain_outcomes(each))
        for goal in good[::11] + [good[-1]]:
            self.same(sign_sum(film, goal), signs[goal], goal)


class Game(PlainCase):

    def check(self, film):
        self.same(nim(film), plain_nim(film), film)
        self.same(wins(film), plain_nim(film) > 0, film)
        good = sorted({then for then in (plain_cut(film, pair) for pair in plain_cuts(film)) if plain_nim(then) == 0})
        self.same(winning_films(film), good, film)
        self.same(game_lengths(film), (min(plain_games(film)), max(plain_games(film))), film)

    def test_against_all_games(self):
        for film in order_films() + large_films():
            self.check(film)

    def test_small(self):
        self.same([nim("a"), wins("a"), winning_films("a"), game_lengths("a")], [0, False, [], (0, 0)])
        self.same([nim("aa"), wins("aa"), winning_films("aa"), game_lengths("aa")], [1, True, ["a"], (1, 1)])
        self.same([nim("a" * 14), game_lengths("a" * 14)], [13, (1, 13)])
        self.same([nim("abcdefgh"), game_lengths("abcdefghabcdef")], [0, (1, 1)])


class WrongValues(PlainCase):

    def test_no_films(self):
        for call in OF_ONE + (covers,):
            self.fails_for_no_film(BadFilm, call)
        for call in OF_TWO:
            self.fails_for_no_film(BadFilm, call, behind=("a",))
            self.fails_for_no_film(BadFilm, call, ahead=("a",))
            self.fails_for_no_film(BadFilm, call, ahead=("a" * 15,))
            self.fails(BadFilm, call, "abi", "xa", place=2)
        for steps in (0, -1, None):
            self.fails_for_no_film(BadFilm, count_all_rows, behind=(steps,))

    def test_steps(self):
        for value in NO_INTEGERS + (-1, 15, 200, 10 ** 30):
            for film in ("a", "aab", "a" * 14, "a" * 15, "ab" * 100):
                self.fails(BadNumber, count_all_rows, film, value)
        self.same([count_all_rows("aab", 0), count_all_rows("aab", 14)], [1, 0])

    def test_too_long(self):
        for film in ("a" * 15, "abcdefghabcdefg", "ab" * 100, "aabb" * 50):
            for call in OF_ONE:
                self.fails(TooLong, call, film, most=14)
            for call in OF_TWO:
                for goal in (film, "a", "h" * 200):
                    self.fails(TooLong, call, film, goal, most=14)
            for steps in (0, 14):
                self.fails(TooLong, count_all_rows, film, steps, most=14)
            self.assertIs(type(covers(film)), list)

    def test_new_lists(self):
        for film in ("aabab", "aaa", "abc"):
            self.gives_new_list(covers, film)
            self.gives_new_list(winning_films, film)
            self.gives_new_list(between, film, film)
            self.gives_new_list(between, film, "h")
