"""Point 14: outcomes by their letters, without letters, agreement and the next one."""

import random
from functools import lru_cache

from jumpcuts.errors import BadFilm, BadNumber
from jumpcuts.outcomes import count_outcomes, count_with, lengths, outcomes, shortest
from jumpcuts.partings import comes
from jumpcuts.sets import (
    agreement, by_letters, count_just, letter_range, longest_without, next_outcome, shortest_without,
)
from jumpcuts.worths import count_letters

from tests.plain import (
    FILM_OF_5000, LONG_FILMS, NO_LETTER, NO_LETTERS, PlainCase, films_of, near_goals, outcome_films, plain_outcomes,
    plain_states, some_films,
)


@lru_cache(maxsize=None)
def parts(word):
    """All words that are left of a word if some letters, or none, are left out."""
    if not word:
        return frozenset([""])
    behind = parts(word[1:])
    return behind | frozenset(word[0] + part for part in behind)


def plain_agreement(film, wish):
    best = (-1, None)
    for goal in plain_outcomes(film):
        many = max(len(part) for part in parts(goal) & parts(wish))
        if many > best[0]:
            best = (many, goal)
    return best


def common_letters(one, other):
    """The greatest number of letters that can be left of both of two words, by the usual table."""
    row = [0] * (len(other) + 1)
    for sign in one:
        now = [0]
        for place, letter in enumerate(other):
            now.append(row[place] + 1 if sign == letter else max(row[place + 1], now[-1]))
        row = now
    return row[-1]


class Small(PlainCase):

    def test_by_letters(self):
        for film in outcome_films():
            counts = {}
            for goal in plain_outcomes(film):
                letters = "".join(sorted(set(goal)))
                counts[letters] = counts.get(letters, 0) + 1
            self.same(by_letters(film), tuple(sorted(counts.items())), film)
            for letters in (*counts, "", "a", "b", "ab", "abc", "h", "abcdefgh"):
                self.same(count_just(film, letters), counts.get(letters, 0), film, letters)

    def test_without(self):
        for film in outcome_films():
            for letters in ("", "a", "b", "c", "h", "ab", "bc", "cdefgh", "abcdefgh"):
                good = [goal for goal in plain_outcomes(film) if not set(goal) & set(letters)]
                least = min(good, key=lambda goal: (len(goal), goal), default=None)
                longest = min(good, key=lambda goal: (-len(goal), goal), default=None)
                self.same(shortest_without(film, letters), least, film, letters)
                self.same(longest_without(film, letters), longest, film, letters)

    def test_letter_range(self):
        for film in outcome_films():
            for letter in "abcdefgh":
                times = [goal.count(letter) for goal in plain_outcomes(film)]
                self.same(letter_range(film, letter), (min(times), max(times)), film, letter)

    def test_agreement(self):
        draw = random.Random(131)
        for film in outcome_films():
            if len(film) <= 9:
                goal = draw.choice(plain_outcomes(film))
                for wish in {film[::-1][:9], goal, goal[::-1], *draw.sample(films_of("abc", 1, 5), 4), "h", "hah"}:
                    self.same(agreement(film, wish), plain_agreement(film, wish), film, wish)

    def test_agreement_with_all_small_wishes(self):
        for film in ["aabbab", "abcbca", "aabab", "babba", "abbcaab"] + films_of("ab", 1, 4):
            for wish in films_of("abc", 1, 4):
                self.same(agreement(film, wish), plain_agreement(film, wish), film, wish)
        self.same(agreement("bab", "h"), (0, "b"))

    def test_next_outcome(self):
        for film in outcome_films():
            good = plain_outcomes(film)
            for goal, behind in zip(good, good[1:] + [None]):
                self.same(next_outcome(film, goal), behind, film, goal)
        for film in outcome_films()[::9]:
            good = plain_outcomes(film)
            for goal in near_goals(film, "abc"):
                if goal not in good:
                    self.same(next_outcome(film, goal), None, film, goal)

    def test_step_by_step_through_5000(self):
        goal = outcomes(FILM_OF_5000)[0]
        steps = [goal]
        while (goal := next_outcome(FILM_OF_5000, goal)) is not None:
            steps.append(goal)
        self.same(steps, outcomes(FILM_OF_5000))


class Long(PlainCase):

    def films(self):
        films = list(LONG_FILMS) + ["aabb" * 50, "abcacbdbcabbdac" * 13] + some_films("ab", (200,), 2, 132)
        return films + some_films("abcdefgh", (200,), 3, 133) + some_films("abc", (200,), 2, 134)

    def test_letters(self):
        for film in self.films():
            counts = plain_states(film, "", lambda had, letter: "".join(sorted({*had, letter})))
            self.same(by_letters(film), tuple(sorted(counts.items())), film)
            for letters in (*list(counts)[:5], "", "a", "h", "ab", "abcdefgh"):
                self.same(count_just(film, letters), counts.get(letters, 0), film, letters)
            for letter in "ah":
                times = plain_states(film, 0, lambda had, sign: had + (sign == letter))
                self.same(letter_range(film, letter), (min(times), max(times)), film, letter)

    def test_without(self):
        for film in self.films():
            for letters in ("", film[0], "h", "b", "cd", "efg", "cdefgh"):
                kept = "".join(letter for letter in "abcdefgh" if letter not in letters)
                least = shortest_without(film, letters)
                longest = longest_without(film, letters)
                sizes = plain_states(film, 0, lambda had, letter: None if had is None or letter in letters else had + 1)
                sizes.pop(None, None)
                if not sizes:
                    self.same([least, longest, count_with(film, kept)], [None, None, 0])
                    continue
                for goal, size in ((least, min(sizes)), (longest, max(sizes))):
                    self.assertTrue(comes(film, goal))
                    self.assertFalse(set(goal) & set(letters))
                    self.same(len(goal), size, film, letters)
            self.same(shortest_without(film, ""), shortest(film))
            self.same(longest_without(film, ""), film)

    def test_agreement(self):
        for film in self.films():
            for wish in (film, film[::-1], "ab" * 100, "h" * 200, film[3:30], "hgfedcba", "aabb" * 50):
                many, goal = agreement(film, wish)
                self.assertTrue(comes(film, goal))
                self.same(common_letters(goal, wish), many)
                # The film itself is an outcome, and more letters of it than of what comes of it agree.
                self.same(common_letters(film, wish), many)
        self.same(agreement("a" * 200, "a" * 150), (150, "a" * 150))
        self.same(agreement("ab" * 100, "b" * 30 + "a"), (31, "ab" * 31))
        self.same(agreement("abcdefgh" * 25, "hhha"), (4, "abcdefgh" * 4))
        self.same(agreement("abcdefgh" * 25, "hhh"), (3, "abcdefgh" * 3))

    def test_next_outcome(self):
        for film in self.films():
            if count_outcomes(film) <= 200:
                good = outcomes(film)
                self.same([next_outcome(film, goal) for goal in good], good[1:] + [None])
            goal = shortest(film)
            for _ in range(5):
                behind = next_outcome(film, goal)
                if behind is None:
                    break
                self.assertTrue(comes(film, behind))
                self.assertLess(goal, behind)
                goal = behind
            self.same(next_outcome(film, "h" + film[:-1]), None)

    def test_sums(self):
        film = "aabb" * 50
        self.same(sum(many for _, many in by_letters(film)), count_outcomes(film))
        self.same(sum(count_letters(film, "a", times) for times in range(201)), sum(lengths(film)))
        self.assertGreater(by_letters(film)[0][1], 2 ** 100)


class WrongValues(PlainCase):

    def test_no_films(self):
        for call, more in ((by_letters, ()), (count_just, ("a",)), (shortest_without, ("a",)),
                           (longest_without, ("a",)),
                           (letter_range, ("a",)), (agreement, ("a",)), (next_outcome, ("a",)), (count_just, ("ba",)),
                           (shortest_without, (None,)), (longest_without, (0,)), (letter_range, ("",)),
                           (agreement, (None,)), (next_outcome, ("i",))):
            self.fails_for_no_film(BadFilm, call, behind=more)
        for call in (agreement, next_outcome):
            self.fails_for_no_film(BadFilm, call, ahead=("a",))
            self.fails(BadFilm, call, "abi", "xa", place=2)

    def test_letters(self):
        for value in NO_LETTERS:
            for call in (count_just, shortest_without, longest_without):
                self.fails(BadNumber, call, "aab", value)
        self.same([count_just("aab", ""), shortest_without("aab", ""), longest_without("aab", "")], [0, "ab", "aab"])
        self.same([count_just("aab", "abcdefgh"), shortest_without("aab", "abcdefgh")], [0, None])
        for value in NO_LETTER:
            self.fails(BadNumber, letter_range, "aab", value)
        self.same(letter_range("aab", "h"), (0, 0))
