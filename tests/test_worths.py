"""Point 13: worths, and outcomes that begin, end or go on in told ways."""

import random

from jumpcuts.errors import BadFilm, BadNumber
from jumpcuts.outcomes import count_outcomes
from jumpcuts.partings import comes
from jumpcuts.worths import (
    count_beginning, count_ending, count_holding, count_letters, count_unlike, greatest_worth, least_worth, worth,
)

from tests.plain import (
    LONG_FILMS, NO_INTEGERS, NO_LETTER, PlainCase, films_of, outcome_films, plain_outcomes, plain_states, plain_steps,
    plain_sum, some_films,
)

ZEROES = (0,) * 8
NO_WEIGHTS = NO_INTEGERS + (
    0, 1, ZEROES[:7], ZEROES + (0,), [0] * 8, {n: 0 for n in range(8)}, "00000000", ("0",) * 8, (True,) * 8,
    (None,) + ZEROES[1:], ZEROES[1:] + (None,), (True,) + ZEROES[1:], ZEROES[1:] + (False,), (-1001,) + ZEROES[1:],
    ZEROES[1:] + (1001,), ZEROES[1:] + (-1001,), (1001,) + ZEROES[1:], (10 ** 30,) * 8, ("1",) + ZEROES[1:],
    ZEROES[1:] + ((0,),), ZEROES[1:] + ([],), (ZEROES,), ZEROES[1:] + ({},),
)


def plain_worth(film, weights):
    return sum(weights["abcdefgh".index(letter)] for letter in film)


def some_weights(seed):
    draw = random.Random(seed)
    found = [ZEROES, (1,) * 8, (-1,) * 8, (1000,) * 8, (-1000,) * 8, (1, -1) * 4, (-1, 1) * 4]
    found.append((0, 1, -1, 0, 2, -2, 0, 1))
    found += [tuple(draw.randint(-2, 2) for _ in range(8)) for _ in range(3)]
    return found + [tuple(draw.randint(-1000, 1000) for _ in range(8))]


def some_words(film, seed):
    """Words that stand in a film or its outcomes, and others."""
    draw = random.Random(seed)
    words = ["a", "b", "h", "ab", "ba", "aa", "aba", film, film + "a", film[:2], film[-2:], film[1:] + "b", "ab" * 100]
    for goal in draw.choices(plain_outcomes(film), k=3):
        start = draw.randrange(len(goal))
        words += [goal, goal[:start + 1], goal[start:], goal[start // 2:start + 1]]
    return list(dict.fromkeys(words))


def plain_best(film, weights):
    """The greatest worth of an outcome, for films of any size."""
    best = {frozenset([0]): 0}
    for stops, further in plain_steps(film).items():
        for letter, behind in further.items():
            total = best[stops] + plain_worth(letter, weights)
            best[behind] = max(total, best.get(behind, total))
    return max(total for stops, total in best.items() if len(film) in stops)


class Small(PlainCase):

    def test_worths(self):
        for number, film in enumerate(outcome_films()):
            good = plain_outcomes(film)
            for weights in some_weights(number):
                self.same(worth(film, weights), plain_worth(film, weights), film, weights)
                for call, chosen in ((greatest_worth, max), (least_worth, min)):
                    best = chosen(plain_worth(goal, weights) for goal in good)
                    first = next(goal for goal in good if plain_worth(goal, weights) == best)
                    self.same(call(film, weights), (best, first), film, weights)

    def test_words(self):
        for number, film in enumerate(outcome_films()):
            good = plain_outcomes(film)
            for word in some_words(film, number):
                starts = sum(1 for goal in good if goal.startswith(word))
                self.same(count_beginning(film, word), starts, film, word)
                self.same(count_ending(film, word), sum(1 for goal in good if goal.endswith(word)), film, word)
                self.same(count_holding(film, word), sum(1 for goal in good if word in goal), film, word)

    def test_all_words_of_two_letters(self):
        for film in ("aabab", "aabbaabbab", "abbabaabba", "aaaaabaaaa", "abababbab"):
            good = plain_outcomes(film)
            for word in films_of("ab", 1, 6):
                self.same(count_holding(film, word), sum(1 for goal in good if word in goal), film, word)
                self.same(count_ending(film, word), sum(1 for goal in good if goal.endswith(word)), film, word)

    def test_letters(self):
        for film in outcome_films():
            good = plain_outcomes(film)
            unlike = [goal for goal in good if all(x != y for x, y in zip(goal, goal[1:]))]
            self.same(count_unlike(film), len(unlike), film)
            for letter in "abh":
                for times in range(len(film) + 1):
                    wanted = sum(1 for goal in good if goal.count(letter) == times)
                    self.same(count_letters(film, letter, times), wanted, film, letter, times)

    def test_one_letter(self):
        self.same(worth("a", (7,) + ZEROES[1:]), 7)
        self.same(greatest_worth("h", ZEROES), (0, "h"))
        self.same(greatest_worth("aaa", (-1000,) * 8), (-1000, "a"))
        self.same(least_worth("aaa", (-1000,) * 8), (-3000, "aaa"))
        self.same([count_unlike("a"), count_unlike("aa"), count_letters("a", "a", 0), count_letters("a", "a", 1)],
                  [1, 1, 0, 1])


class Long(PlainCase):

    def films(self):
        films = list(LONG_FILMS) + ["aabb" * 50] + some_films("ab", (200,), 2, 121)
        return films + some_films("abcdefgh", (200,), 2, 122) + some_films("abcd", (200,), 2, 123)

    def test_counts(self):
        for film in self.films():
            for word in ("a", "ab", "aab", "abab", film[:4], film[-3:], "ha"):
                size = len(word)
                wanted = plain_sum(film, "", lambda had, letter: (had + letter)[:size], lambda had: had == word)
                self.same(count_beginning(film, word), wanted, film, word)
                wanted = plain_sum(film, "", lambda had, letter: (had + letter)[-size:], lambda had: had == word)
                self.same(count_ending(film, word), wanted, film, word)
                wanted = plain_sum(film, "", lambda had, letter: word if had == word else (had + letter)[-size:],
                                   lambda had: had == word)
                self.same(count_holding(film, word), wanted, film, word)
            wanted = plain_sum(film, "", lambda last, letter: None if last in (None, letter) else letter, bool)
            self.same(count_unlike(film), wanted, film)

    def test_count_letters(self):
        for film in self.films():
            for letter in "ab":
                counts = plain_states(film, 0, lambda had, sign: had + (sign == letter))
                for times in (0, 1, 2, 3, 25, 50, 100, 199, 200):
                    self.same(count_letters(film, letter, times), counts.get(times, 0), film, letter, times)
                self.assertEqual(sum(counts.values()), count_outcomes(film))

    def test_whole_films(self):
        for film in self.films():
            self.same([call(film, film) for call in (count_beginning, count_ending, count_holding)], [1, 1, 1])
            inner = film[40:160]
            self.assertGreater(count_holding(film, inner), 0)
            self.same(count_beginning(film, film[:-1] + ("a" if film[-1] != "a" else "b")), 0)
        self.same(count_holding("a" * 200, "a" * 150), 51)
        self.same(count_beginning("a" * 200, "a" * 150), 51)
        self.same(count_ending("a" * 200, "a" * 200), 1)
        self.same(count_letters("a" * 200, "a", 200), 1)
        self.same(count_letters("a" * 200, "a", 0), 0)
        self.same(count_letters("a" * 200, "b", 0), 200)
        self.assertGreater(count_holding("aabb" * 50, "ab"), 2 ** 80)

    def test_worths(self):
        for number, film in enumerate(self.films()):
            for weights in some_weights(number):
                for call, sign in ((greatest_worth, 1), (least_worth, -1)):
                    best, goal = call(film, weights)
                    self.assertTrue(comes(film, goal))
                    self.same(worth(goal, weights), best)
                    self.same(plain_best(film, [sign * weight for weight in weights]), sign * best, film, weights)
        self.same(greatest_worth("a" * 200, (1000,) * 8), (200000, "a" * 200))
        self.same(least_worth("a" * 200, (-1000,) * 8), (-200000, "a" * 200))
        self.same(greatest_worth("ab" * 100, (-1000,) * 8), (-2000, "ab"))
        self.same(greatest_worth("ab" * 100, ZEROES), (0, "ab"))
        self.same(least_worth("ab" * 100, (1000, -1000) + ZEROES[2:]), (0, "ab"))


class WrongValues(PlainCase):

    def test_no_films(self):
        for call, more in ((worth, (ZEROES,)), (greatest_worth, (ZEROES,)), (least_worth, (ZEROES,)),
                           (count_beginning, ("a",)), (count_ending, ("a",)), (count_holding, ("a",)),
                           (count_unlike, ()), (count_letters, ("a", 0)), (worth, (None,)), (greatest_worth, ((),)),
                           (least_worth, (1,)), (count_letters, ("ab", 0)), (count_letters, ("a", -1))):
            self.fails_for_no_film(BadFilm, call, behind=more)
        for call in (count_beginning, count_ending, count_holding):
            self.fails_for_no_film(BadFilm, call, ahead=("a",))
            self.fails(BadFilm, call, "abi", "xa", place=2)
            self.fails(BadFilm, call, "ab", "", place=None)

    def test_weights(self):
        for value in NO_WEIGHTS:
            for call in (worth, greatest_worth, least_worth):
                self.fails(BadNumber, call, "aab", value)
        self.same(worth("abh", (-1000,) * 7 + (1000,)), -1000)
        self.same(worth("hh", (-1000,) * 7 + (1000,)), 2000)

    def test_letters_and_times(self):
        for value in NO_LETTER:
            self.fails(BadNumber, count_letters, "aab", value, 0)
            self.fails(BadNumber, count_letters, "aab", value, None)
        for value in NO_INTEGERS + (-1, 4, 200, 10 ** 30):
            self.fails(BadNumber, count_letters, "aab", "a", value)
        self.same([count_letters("aab", "a", times) for times in range(4)], [0, 1, 1, 0])
        self.same(count_letters("aab", "h", 0), 2)
        self.fails(BadNumber, count_letters, "a" * 200, "a", 201)
