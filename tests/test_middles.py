"""Points 23 and 24: films between two, one cut off, several films played, the turned game, nim numbers counted."""

import random
from functools import lru_cache

from jumpcuts.errors import BadFilm, BadFilms, BadNumber, TooLong
from jumpcuts.middles import (
    between_lengths, count_between, first_missing, is_between, nim_counts, nim_of_all, one_cut_off, turned_wins,
    winning_cuts,
)
from jumpcuts.order import between, nim, winning_films, wins
from jumpcuts.outcomes import count_outcomes, lengths
from jumpcuts.partings import comes

from tests.plain import (
    LONG_FILMS, NO_FILMS, NO_INTEGERS, NO_TUPLES_OF_FILMS, PlainCase, blocks_read, films_of, near_goals, plain_cut,
    plain_cuts, plain_goals, plain_outcomes, plain_states, some_films,
)
from tests.test_order import large_films, order_films, plain_nim

ALL = "abcdefgh"


def between_by_lengths(film, goal):
    """By lengths, how many films are between a film, of any size, and a goal.

    The letters of the films are gone through one by one, with the blocks of the film and those of
    the goal that can have come to an end.
    """
    def move(state, letter):
        size, read = state
        return size + 1, blocks_read(goal, read, letter)

    found = {}
    for (size, (_, ended)), many in plain_states(film, (0, (frozenset(), frozenset([0]))), move).items():
        if len(goal) in ended:
            found[size] = found.get(size, 0) + many
    return found


def plain_comes(film, goal):
    """Tell whether a film comes to a goal, of any size, by its letters, gone through one by one."""
    state = frozenset(), frozenset([0])
    for letter in film:
        state = blocks_read(goal, state, letter)
    return len(goal) in state[1]


def drawn_cut(draw, film):
    """The film behind some cut of a film, the film itself if it has none."""
    pairs = plain_cuts(film)
    return plain_cut(film, draw.choice(pairs)) if pairs else film


def one_letter_off(draw, film, letters):
    """A film with some one letter left out, put in or made another one, of at most 200 letters and not empty."""
    place = draw.randrange(len(film))
    found = [film[:place] + draw.choice(letters) + film[place + 1:]]
    if len(film) > 1:
        found.append(film[:place] + film[place + 1:])
    if len(film) < 200:
        found.append(film[:place] + draw.choice(letters) + film[place:])
    return draw.choice(found)


def put_in(draw, goal, size):
    """A film of so many letters of which one cut makes a goal that is shorter."""
    place = draw.randrange(len(goal))
    more = [draw.choice(goal) for _ in range(size - len(goal) - 1)]
    return goal[:place + 1] + "".join(more) + goal[place:]


@lru_cache(maxsize=None)
def plain_moves(films):
    """All tuples of films that one cut in one of some films makes, with the film's index."""
    return [(at, films[:at] + (plain_cut(film, pair),) + films[at + 1:])
            for at, film in enumerate(films) for pair in plain_cuts(film)]


@lru_cache(maxsize=None)
def nim_of_game(films):
    """The nim number of some films together, by all games; their order does not matter."""
    taken = {nim_of_game(tuple(sorted(then))) for _, then in plain_moves(films)}
    return next(number for number in range(100) if number not in taken)


@lru_cache(maxsize=None)
def plain_turned(film):
    behind = [plain_cut(film, pair) for pair in plain_cuts(film)]
    return not behind or any(not plain_turned(then) for then in behind)


class Between(PlainCase):

    def check(self, film, goal):
        good = [each for each in plain_outcomes(film) if goal in plain_outcomes(each)]
        sizes = [len(each) for each in good]
        self.same(count_between(film, goal), len(good), film, goal)
        wanted = tuple((size, sizes.count(size)) for size in sorted(set(sizes)))
        self.same(between_lengths(film, goal), wanted, film, goal)

    def test_films_of_two_letters(self):
        for film in films_of("ab", 1, 6):
            for goal in films_of("ab", 1, len(film) + 1):
                self.check(film, goal)

    def test_more_films(self):
        draw = random.Random(301)
        films = some_films("ab", (8, 10, 12), 10, 302) + some_films("abc", (5, 7, 9), 40, 303)
        films += some_films("abcd", (8, 10), 15, 304) + some_films(ALL, (9, 12), 10, 305)
        for film in films + ["aabbaabb", "ccbbaaccbbaa"]:
            goals = near_goals(film, "abc")
            for goal in draw.sample(goals, min(12, len(goals))) + [film[:12], film[0], film[0] + film[-1], "h"]:
                if len(goal) <= 12:
                    self.check(film, goal)

    def test_films_of_14_letters(self):
        for film in large_films():
            for goal in (film[0] + film[-1], film[0], film[:12], film[1:13], "h"):
                found = between(film, goal)
                self.same(count_between(film, goal), len(found), film, goal)
                self.same(sum(many for _, many in between_lengths(film, goal)), len(found), film, goal)

    def check_long(self, film, goal):
        wanted = between_by_lengths(film, goal)
        self.same(between_lengths(film, goal), tuple(sorted(wanted.items())), film, goal)
        self.same(count_between(film, goal), sum(wanted.values()), film, goal)

    def test_long_films(self):
        for film in LONG_FILMS:
            self.check_long(film, film[0] + film[-1])
            self.check_long(film, film[0])
            self.check_long(film, film[:11] + film[-1])
        for letters, seed in (("ab", 306), ("abc", 307), (ALL, 308)):
            film = some_films(letters, (200,), 1, seed)[0]
            self.check_long(film, film[0] + film[-1])
            self.check_long(film, film[0] + film[60:70] + film[-1])
            self.check_long(film, "h" * 12)

    def test_numbers_that_are_known(self):
        self.same(count_between("a" * 200, "a" * 12), 189)
        self.same(between_lengths("a" * 200, "a" * 12), tuple((size, 1) for size in range(12, 201)))
        self.same([count_between("a", "a"), between_lengths("a", "a")], [1, ((1, 1),)])
        self.same([count_between("ab", "ba"), between_lengths("ab", "ba")], [0, ()])
        self.same([count_between("ab", "abb"), between_lengths("ab", "abb")], [0, ()])
        film = "aabb" * 50
        # All outcomes of such a film begin with a and end with b, so that all of them come to ab.
        self.same(count_between(film, "ab"), count_outcomes(film))
        self.assertGreater(count_between(film, "ab"), 2 ** 64)
        wanted = tuple((at + 1, many) for at, many in enumerate(lengths(film)) if many)
        self.same(between_lengths(film, "ab"), wanted)


class IsBetween(PlainCase):

    def test_films_of_two_letters(self):
        small = films_of("ab", 1, 4)
        for film in small + films_of("ab", 5, 5)[::3]:
            for middle in small:
                for goal in small:
                    wanted = middle in plain_goals(film) and goal in plain_goals(middle)
                    self.same(is_between(film, middle, goal), wanted, film, middle, goal)

    def test_more_films(self):
        draw = random.Random(309)
        for film in some_films("abc", (6, 8, 10), 40, 310) + some_films(ALL, (9, 11), 15, 311):
            middles = near_goals(film, "ab")
            for middle in draw.sample(middles, min(6, len(middles))) + [film]:
                goals = near_goals(middle, "ab")
                for goal in draw.sample(goals, min(6, len(goals))) + [film, middle]:
                    wanted = middle in plain_goals(film) and goal in plain_goals(middle)
                    self.same(is_between(film, middle, goal), wanted, film, middle, goal)

    def test_long_films(self):
        for film in LONG_FILMS:
            goal = film[:11] + film[-1]
            for first, second in plain_cuts(film)[::1999]:
                middle = plain_cut(film, (first, second))
                self.same(is_between(film, middle, film[0] + film[-1]), comes(middle, film[0] + film[-1]), film, middle)
                self.same(is_between(film, middle, goal), comes(middle, goal), film, middle)
                self.same(is_between(middle, film, goal), False)
            self.same(is_between(film, film, goal), comes(film, goal))
            self.same(is_between(goal, film, goal), False)
        self.same(is_between("ab" * 100, "ab" * 70, "ab" * 6), True)
        self.same(is_between("ab" * 100, "ab" * 70 + "a", "ab" * 6), False)
        self.same(is_between("a" * 200, "a" * 200, "a" * 12), True)

    def check_all(self, films):
        """Each of some films as the film, the second one and the goal."""
        comes_of = {(one, other): plain_comes(one, other) for one in films for other in films}
        for film in films:
            for middle in films:
                for goal in films:
                    wanted = comes_of[film, middle] and comes_of[middle, goal]
                    self.same(is_between(film, middle, goal), wanted, film, middle, goal)

    def test_goals_of_any_length(self):
        draw = random.Random(323)
        for letters in ("a", "ab", ALL):
            for size in (12, 13, 14):
                for further in (size + 1, size + 6, 199):
                    goal = "".join(draw.choice(letters) for _ in range(size))
                    middle = put_in(draw, goal, further)
                    film = put_in(draw, middle, further + 1)
                    self.same(is_between(film, middle, goal), True, film, middle, goal)
                    self.check_all([film, middle, goal, one_letter_off(draw, middle, letters + "h"),
                                    one_letter_off(draw, goal, letters + "h")])

    def test_goals_of_200_letters(self):
        draw = random.Random(324)
        for goal in ("a" * 200, "ab" * 100, "abcdefgh" * 25) + tuple(some_films(ALL, (200,), 2, 325)):
            other = one_letter_off(draw, goal, "h")[:199] + "h"
            # No film is longer than 200 letters, so nothing but the goal itself comes to it.
            self.same(is_between(goal, goal, goal), True)
            self.check_all([goal, drawn_cut(draw, goal), goal[:199], other])

    def test_sizes_at_the_limits(self):
        for size in (12, 13, 14, 15, 100, 199):
            same = "a" * size
            self.same([is_between(same + "a", same, same), is_between(same, same + "a", same),
                       is_between(same, same, same + "a"), is_between(same, same, same)], [True, False, False, True])
            both = ("ab" * 100)[:size]
            self.same([is_between(both, both, both), is_between(both + "b", both + "b", both)],
                      [True, size % 2 == 0])
            every = ("abcdefgh" * 25)[:size]
            self.same([is_between(every, every, every), is_between(every + "h", every, every),
                       is_between(every, every, every + "h")], [True, every[-1] == "h", False])


class OneCutOff(PlainCase):

    def check(self, film, goals):
        good = {plain_cut(film, pair) for pair in plain_cuts(film)}
        for goal in goals:
            self.same(one_cut_off(film, goal), goal in good, film, goal)
        # A long film has too many to go through all of them.
        for goal in sorted(good)[::1 + len(good) // 60]:
            self.same(one_cut_off(film, goal), True, film, goal)

    def test_films_of_two_letters(self):
        for film in films_of("ab", 1, 6):
            self.check(film, films_of("ab", 1, 6))

    def test_more_films(self):
        films = some_films("ab", (8, 10, 12), 10, 312) + some_films("abc", (5, 8, 11), 30, 313)
        films += some_films("abcd", (9, 12), 15, 314) + some_films(ALL, (10, 14), 20, 315)
        for film in films:
            self.check(film, near_goals(film, "abc") if len(film) < 13 else [film[:12], film[0], film[:13], film])

    def test_long_films(self):
        for film in LONG_FILMS + tuple(some_films(ALL, (200,), 2, 316)):
            good = {plain_cut(film, pair) for pair in plain_cuts(film) if pair[1] - pair[0] >= 188}
            for size in range(1, 13):
                for start in range(size):
                    goal = film[:start] + film[200 - size + start:]
                    self.same(one_cut_off(film, goal), goal in good, film, goal)
            self.check(film, [film[0], film[0] + film[-1], film[:12], film[-12:]])
        self.same(one_cut_off("b" + "a" * 199, "ba"), True)
        self.same(one_cut_off("b" * 100 + "a" * 100, "ba"), False)
        self.same(one_cut_off("a" * 12, "a" * 12), False)

    def test_goals_of_any_length(self):
        draw = random.Random(326)
        for letters in ("a", "ab", ALL):
            for size in (12, 13, 14):
                for further in (size + 1, size + 2, size + 6, 60, 200):
                    goal = "".join(draw.choice(letters) for _ in range(size))
                    film = put_in(draw, goal, further)
                    self.same(one_cut_off(film, goal), True, film, goal)
                    goals = [goal, film, goal + goal[-1], film[:size], film[-size:], drawn_cut(draw, goal),
                             drawn_cut(draw, drawn_cut(draw, film))]
                    goals += [one_letter_off(draw, each, letters + "h") for each in (goal, goal, goal, film)]
                    self.check(film, goals)

    def test_goals_of_200_letters(self):
        draw = random.Random(327)
        for goal in ("a" * 200, "ab" * 100, "abcdefgh" * 25) + tuple(some_films(ALL, (200,), 2, 328)):
            # A cut leaves 199 letters at most, so it makes no such goal of any film.
            for film in (goal, goal[:199], drawn_cut(draw, goal), one_letter_off(draw, goal, "h"), "a"):
                self.same(one_cut_off(film, goal), False, film, goal)

    def test_one_cut_and_two(self):
        for size in (12, 13, 14, 15, 100, 199):
            self.same([one_cut_off("a" * (size + 1), "a" * size), one_cut_off("a" * size, "a" * size),
                       one_cut_off("a" * size, "a" * (size + 1))], [True, False, False])
        for size in (12, 14, 100, 198):
            goal = "ab" * (size // 2)
            self.same([one_cut_off("ab" + goal, goal), one_cut_off("a" + goal, goal), one_cut_off(goal + "b", goal),
                       one_cut_off("a" + goal + "b", goal), one_cut_off("b" + goal, goal)],
                      [True, True, True, False, False])
        for goal in ("abcdefghabcd", "abcdefghabcde", "abcdefghabcdef", "abcdefgh" * 24):
            self.same([one_cut_off("abcdefgh" + goal, goal), one_cut_off("a" + goal, goal),
                       one_cut_off("a" + goal + goal[-1], goal), one_cut_off("b" + goal, goal)],
                      [True, True, False, False])


class Games(PlainCase):

    def check(self, films):
        together = nim_of_game(tuple(sorted(films)))
        self.same(nim_of_all(films), together, films)
        good = {(at, then[at]) for at, then in plain_moves(films) if nim_of_game(tuple(sorted(then))) == 0}
        self.same(winning_cuts(films), tuple(sorted(good)), films)

    def test_against_all_games(self):
        small = films_of("ab", 1, 3) + ["aaaa", "abab", "aabb", "abcabc", "h"]
        for one in small:
            self.check((one,))
            for other in small:
                self.check((one, other))
        draw = random.Random(317)
        for many in (3, 4):
            for _ in range(120):
                self.check(tuple(draw.choice(small) for _ in range(many)))

    def test_larger_games(self):
        for size, many, seed in ((5, 2, 318), (6, 2, 319), (4, 3, 320), (4, 4, 321)):
            films = some_films("ab", (size, size - 1), 6 * many, seed) + some_films("abc", (size,), 6 * many, seed + 10)
            for at in range(0, len(films), many):
                self.check(tuple(films[at:at + many]))

    def test_numbers_together(self):
        draw = random.Random(322)
        films = large_films() + order_films()
        for many in (1, 2, 3, 4) * 5:
            chosen = tuple(draw.choice(films) for _ in range(many))
            together = 0
            for film in chosen:
                together ^= plain_nim(film)
            self.same(nim_of_all(chosen), together, chosen)
            wanted = {(at, then[at]) for at, then in plain_moves(chosen)
                      if together ^ plain_nim(chosen[at]) ^ plain_nim(then[at]) == 0}
            self.same(winning_cuts(chosen), tuple(sorted(wanted)), chosen)

    def test_one_film(self):
        for film in order_films()[::3] + ["a" * 14]:
            self.same(nim_of_all((film,)), nim(film))
            self.same(winning_cuts((film,)), tuple((0, after) for after in winning_films(film)))
            self.same([nim_of_all((film, film)), winning_cuts((film, film))], [0, ()])

    def test_small(self):
        self.same([nim_of_all(("a",)), winning_cuts(("a",)), nim_of_all(("a",) * 4), winning_cuts(("a",) * 4)],
                  [0, (), 0, ()])
        self.same([nim_of_all(("aa", "b", "cc")), winning_cuts(("aa", "b", "ccc"))], [0, ((2, "cc"),)])
        self.same(nim_of_all(("a" * 14,) * 3), 13)


class TurnedGame(PlainCase):

    def test_turned_wins(self):
        for film in order_films() + large_films():
            self.same(turned_wins(film), plain_turned(film), film)
        self.same([turned_wins("a"), turned_wins("aa"), turned_wins("aaa"), turned_wins("h")],
                  [True, False, True, True])
        self.same([turned_wins("a" * 14), wins("a" * 14), turned_wins("abcdefghabcdef")], [True, True, False])

    def test_first_missing(self):
        for film in order_films() + large_films():
            taken = {plain_nim(goal) for goal in plain_outcomes(film)}
            wanted = next(number for number in range(100) if number not in taken)
            self.same(first_missing(film), wanted, film)
        self.same([first_missing("a"), first_missing("aa"), first_missing("a" * 14)], [1, 2, 14])


class NimCounts(PlainCase):

    def test_all_sizes(self):
        for size in range(1, 8):
            for many in (1, 2, 3):
                numbers = [plain_nim(film) for film in films_of(ALL[:many], size, size)]
                wanted = tuple((number, numbers.count(number)) for number in sorted(set(numbers)))
                self.same(nim_counts(size, many), wanted, size, many)
        self.same([nim_counts(1, 3), nim_counts(7, 1)], [((0, 3),), ((6, 1),)])


class WrongValues(PlainCase):

    def test_no_films(self):
        for call in (count_between, between_lengths, one_cut_off):
            self.fails_for_no_film(BadFilm, call, behind=("a",))
            self.fails_for_no_film(BadFilm, call, ahead=("a",))
            self.fails_for_no_film(BadFilm, call, behind=("a" * 13,))
            self.fails_for_no_film(BadFilm, call, ahead=("a" * 200,))
            self.fails(BadFilm, call, "abi", "xa", place=2)
            self.fails(BadFilm, call, "a", "a" * 13 + "i", place=13)
        for more in (("a", "a"), ("xa", None), ("a", "a" * 13), (None, "a" * 13)):
            self.fails_for_no_film(BadFilm, is_between, behind=more)
        for last in ("a", "xa", "a" * 13):
            self.fails_for_no_film(BadFilm, is_between, ahead=("a",), behind=(last,))
        self.fails_for_no_film(BadFilm, is_between, ahead=("a", "b"))
        self.fails_for_no_film(BadFilm, is_between, ahead=("a" * 200, "a" * 200))
        self.fails(BadFilm, is_between, "a", "a", "a" * 13 + "i", place=13)
        for call in (turned_wins, first_missing):
            self.fails_for_no_film(BadFilm, call)

    def test_no_tuples_of_films(self):
        for call in (nim_of_all, winning_cuts):
            for value in NO_TUPLES_OF_FILMS:
                self.fails(BadFilms, call, value)
            for value, place in NO_FILMS:
                self.fails(BadFilm, call, (value,), place=place)
                self.fails(BadFilm, call, (value, "xa"), place=place)
                self.fails(BadFilm, call, ("a", "ab", "b", value), place=place)
                self.fails(BadFilm, call, ("a" * 15, value, None), place=place)
            self.fails(BadFilm, call, (("a",),), place=None)

    def test_numbers(self):
        for value in NO_INTEGERS + (0, -1, 8, 10 ** 30):
            for many in (1, 3, 0, None):
                self.fails(BadNumber, nim_counts, value, many)
        for value in NO_INTEGERS + (0, -1, 4, 10 ** 30):
            for size in (1, 7, 8, None):
                self.fails(BadNumber, nim_counts, size, value)

    def test_too_long_goals(self):
        for goal in ("a" * 13, "abcdefghabcde", "ab" * 100):
            for film in ("a", goal, "b" * 200):
                for call in (count_between, between_lengths):
                    self.fails(TooLong, call, film, goal, most=12)
        self.same([count_between("a" * 13, "a" * 12), between_lengths("a" * 13, "a" * 12)], [2, ((12, 1), (13, 1))])

    def test_too_long_films(self):
        for film in ("a" * 15, "abcdefghabcdefg", "ab" * 100):
            for call in (turned_wins, first_missing):
                self.fails(TooLong, call, film, most=14)
            for films in ((film,), ("a", film), (film, "a" * 14), ("a", "b", "c", film)):
                self.fails(TooLong, nim_of_all, films, most=14)
                self.fails(TooLong, winning_cuts, films, most=14)
        self.same(nim_of_all(("a" * 14,)), 13)

    def test_the_same_each_time(self):
        films = ("aab", "abab", "aaa")
        for _ in range(2):
            self.same(winning_cuts(films), winning_cuts(films))
        self.same(films, ("aab", "abab", "aaa"))
