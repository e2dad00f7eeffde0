"""Points 11 and 12: all outcomes, their order, the shortest and the last ones."""

from itertools import combinations

from jumpcuts.errors import BadFilm, BadNumber, TooLong
from jumpcuts.outcomes import (
    always, count_of_length, count_outcomes, count_with, last_outcomes, lengths, outcome_at, outcomes, rank_of,
    shortest, shortest_length,
)
from jumpcuts.partings import comes

from tests.plain import (
    FILM_OF_5000, FILM_OF_5001, LONG_FILMS, NO_INTEGERS, NO_LETTERS, PlainCase, films_of, near_goals, outcome_films,
    plain_outcomes, plain_sum, some_films,
)

ALL_LETTERS = ["".join(some) for size in range(9) for some in combinations("abcdefgh", size)]
BLOCKS = "a" * 50 + "b" * 50 + "c" * 2


class Small(PlainCase):

    def test_lists_and_counts(self):
        for film in outcome_films():
            good = plain_outcomes(film)
            self.same(outcomes(film), good, film)
            self.same(count_outcomes(film), len(good), film)
            sizes = tuple(sum(1 for goal in good if len(goal) == size) for size in range(1, len(film) + 1))
            self.same(lengths(film), sizes, film)
            for size in range(1, len(film) + 1):
                self.same(count_of_length(film, size), sizes[size - 1], film, size)

    def test_count_with(self):
        for film in outcome_films():
            good = plain_outcomes(film)
            for letters in ALL_LETTERS if len(film) in (4, 9) else ("", "a", "b", "ab", "bc", "abc", "abcdefgh"):
                wanted = sum(1 for goal in good if set(goal) <= set(letters))
                self.same(count_with(film, letters), wanted, film, letters)

    def test_shortest_and_last(self):
        for film in outcome_films():
            good = plain_outcomes(film)
            size = min(len(goal) for goal in good)
            self.same(shortest_length(film), size, film)
            self.same(shortest(film), min(goal for goal in good if len(goal) == size), film)
            self.same(last_outcomes(film), [goal for goal in good if len(set(goal)) == len(goal)], film)
            self.same(always(film), "".join(c for c in "abcdefgh" if all(c in goal for goal in good)), film)

    def test_order(self):
        for film in outcome_films():
            good = plain_outcomes(film)
            for rank, goal in enumerate(good):
                self.same(outcome_at(film, rank), goal, film, rank)
                self.same(rank_of(film, goal), rank, film, goal)
            for rank in (len(good), len(good) + 1, 10 ** 40):
                self.same(outcome_at(film, rank), None, film, rank)

    def test_ranks_of_films_that_are_no_outcomes(self):
        for film in outcome_films()[::7]:
            good = plain_outcomes(film)
            for goal in near_goals(film, "abc"):
                self.same(rank_of(film, goal), good.index(goal) if goal in good else None, film, goal)
        self.same(rank_of("a", "aa"), None)
        self.same(rank_of("ab", "a" * 200), None)

    def test_one_letter(self):
        self.same(outcomes("a"), ["a"])
        self.same(lengths("a"), (1,))
        self.same(count_with("a", ""), 0)
        self.same(always("a"), "a")
        self.same(last_outcomes("h"), ["h"])
        self.same(shortest("aaa"), "a")


class Long(PlainCase):

    def check(self, film):
        """Compare a long film with what the sets of places give at which blocks can end."""
        count = plain_sum(film, None, lambda state, letter: None, lambda state: True)
        self.same(count_outcomes(film), count, film)
        sizes = lengths(film)
        self.assertEqual(len(sizes), len(film))
        self.assertEqual(sum(sizes), count)
        for size in (1, 2, 3, 60, len(film) - 1, len(film)):
            wanted = plain_sum(film, 0, lambda had, letter: min(had + 1, size + 1), lambda had: had == size)
            self.same(count_of_length(film, size), wanted, film, size)
            self.same(sizes[size - 1], wanted, film, size)
        for letters in ("", "a", "h", "ab", "ah", "abcd", "bcdefgh", "abcdefgh"):
            wanted = plain_sum(film, True, lambda good, letter: good and letter in letters, bool)
            self.same(count_with(film, letters), wanted, film, letters)
        needed = [one for one in sorted(set(film)) if plain_sum(
            film, True, lambda good, letter: good and letter != one, bool) == 0]
        self.same(always(film), "".join(needed), film)
        return count

    def test_films_of_200_letters(self):
        films = LONG_FILMS + tuple(some_films("ab", (200,), 3, 111) + some_films("abcdefgh", (200,), 3, 112))
        for film in films + tuple(some_films("abc", (150, 200), 3, 113)) + ("aabb" * 50, "abcddcba" * 25):
            count = self.check(film)
            least = shortest(film)
            self.same(shortest_length(film), len(least))
            self.same(lengths(film)[:len(least)], (0,) * (len(least) - 1) + (lengths(film)[len(least) - 1],))
            self.assertGreater(lengths(film)[len(least) - 1], 0)
            self.assertTrue(comes(film, least))
            last = last_outcomes(film)
            self.assertEqual(last, sorted(goal for goal in last if comes(film, goal) and len(set(goal)) == len(goal)))
            self.same(min((goal for goal in last if len(goal) == len(least))), least)
            before = ""
            for share in range(8):
                rank = (count - 1) * share // 7
                goal = outcome_at(film, rank)
                self.assertTrue(comes(film, goal))
                self.same(rank_of(film, goal), rank, film)
                self.assertTrue(before < goal or count < 8)
                before = goal
            self.same(outcome_at(film, count), None)
            self.same(outcome_at(film, count + 10 ** 30), None)
            self.assertIsNotNone(rank_of(film, film))

    def test_above_64_bits(self):
        self.assertGreater(count_outcomes("aabb" * 50), 2 ** 100)
        self.assertGreater(lengths("aabb" * 50)[99], 2 ** 64)

    def test_last_outcomes_of_long_films(self):
        for film in some_films("abcdefgh", (60,), 3, 114) + some_films("abc", (200,), 3, 115):
            letters = sorted(set(film))
            ways = {film[0]: True}
            for _ in letters:
                ways.update({word + letter: True for word in list(ways) for letter in letters if letter not in word})
            self.same(last_outcomes(film), sorted(word for word in ways if comes(film, word)), film)

    def test_one_letter_and_a_ring_of_letters(self):
        film = "a" * 200
        self.same(outcomes(film), ["a" * many for many in range(1, 201)])
        self.same(lengths(film), (1,) * 200)
        self.same([shortest(film), shortest_length(film), last_outcomes(film), always(film)], ["a", 1, ["a"], "a"])
        self.same([outcome_at(film, 199), rank_of(film, film), count_with(film, "b")], [film, 199, 0])
        film = "abcdefgh" * 25
        self.same(outcomes(film), ["abcdefgh" * many for many in range(1, 26)])
        self.same([shortest(film), last_outcomes(film), always(film)], ["abcdefgh", ["abcdefgh"], "abcdefgh"])
        self.same([count_with(film, "abcdefg"), count_with(film, "abcdefgh")], [0, 25])

    def test_lists_of_5000_films_and_of_more(self):
        wanted = sorted("a" * i + "b" * j + "c" * k for i in range(1, 51) for j in range(1, 51) for k in (1, 2))
        self.same(outcomes(BLOCKS), wanted)
        for rank in (0, 1, 2500, 4998, 4999):
            self.same(outcome_at(BLOCKS, rank), wanted[rank])
        self.same(count_outcomes(FILM_OF_5000), 5000)
        found = outcomes(FILM_OF_5000)
        self.same([len(found), found == sorted(set(found)), all(comes(FILM_OF_5000, goal) for goal in found)],
                  [5000, True, True])
        self.same(count_outcomes(FILM_OF_5001), 5001)
        for film in (FILM_OF_5001, "a" * 50 + "b" * 51 + "cc", "aabb" * 50):
            self.fails(TooLong, outcomes, film, most=5000)


class WrongValues(PlainCase):

    def test_no_films(self):
        for call, more in ((count_outcomes, ()), (outcomes, ()), (outcome_at, (0,)), (rank_of, ("a",)), (lengths, ()),
                           (count_of_length, (1,)), (count_with, ("a",)), (shortest_length, ()), (shortest, ()),
                           (last_outcomes, ()), (always, ()), (outcome_at, (-1,)), (rank_of, (None,)),
                           (count_of_length, (0,)), (count_with, ("ba",))):
            self.fails_for_no_film(BadFilm, call, behind=more)
        self.fails_for_no_film(BadFilm, rank_of, ahead=("a",))
        self.fails(BadFilm, rank_of, "abi", "xa", place=2)
        self.fails(BadFilm, rank_of, FILM_OF_5001, "ax", place=1)

    def test_ranks(self):
        for value in NO_INTEGERS + (-1, -5000, -10 ** 30):
            self.fails(BadNumber, outcome_at, "aab", value)
        self.same(outcome_at("aab", 1), "ab")
        self.same(outcome_at("aab", 2), None)

    def test_sizes(self):
        for value in NO_INTEGERS + (0, -1, 4, 200, 10 ** 30):
            self.fails(BadNumber, count_of_length, "aab", value)
        self.same([count_of_length("aab", size) for size in (1, 2, 3)], [0, 1, 1])
        self.fails(BadNumber, count_of_length, "a" * 200, 201)
        self.fails(BadNumber, count_of_length, "a" * 200, 0)
        self.same(count_of_length("a" * 200, 200), 1)

    def test_letters(self):
        for value in NO_LETTERS:
            self.fails(BadNumber, count_with, "aab", value)
        for value, wanted in (("", 0), ("a", 0), ("ab", 2), ("h", 0), ("abcdefgh", 2), ("abh", 2)):
            self.same(count_with("aab", value), wanted)

    def test_new_lists(self):
        for film in ("aabab", "a", "abcacb"):
            self.gives_new_list(outcomes, film)
            self.gives_new_list(last_outcomes, film)

    def test_all_small_films_have_their_shortest_among_the_last(self):
        for film in films_of("abc", 1, 6):
            self.assertIn(shortest(film), last_outcomes(film))
