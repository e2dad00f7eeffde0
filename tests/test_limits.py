"""Points 8 and 9: partings by their blocks, and prices."""

import random
from functools import lru_cache
from math import comb

from jumpcuts.errors import BadFilm, BadNumber, TooLong
from jumpcuts.limits import cheapest, comes_within, evenest, kept_ends, longest_block, partings_by_cuts
from jumpcuts.numbers import fewest_cuts
from jumpcuts.partings import count_partings, parting_at

from tests.plain import (
    LONG_FILMS, NO_INTEGERS, PlainCase, longer_blocks, numbers_by_goal, pairs, pairs_of_more, pairs_of_two,
    plain_blocks, plain_cut, plain_cuts, plain_partings, plain_rows, some_films,
)


def plain_by_cuts(film, partings):
    numbers = [longer_blocks(film, parting) for parting in partings]
    return tuple(numbers.count(number) for number in range(max(numbers, default=-1) + 1))


def longest_of(film, partings):
    """For each parting how many letters its longest block has."""
    return [max(len(block) for block in plain_blocks(film, parting)) for parting in partings]


def plain_kept(film, partings):
    return tuple(place for place in range(len(film)) if all(place in parting for parting in partings))


@lru_cache(maxsize=None)
def plain_sums(film, prices):
    """For each film that comes of a film, the least sum of prices of all rows to it."""
    found = {film: 0}
    for pair in plain_cuts(film):
        price = prices[pair[1] - pair[0] - 1]
        for goal, total in plain_sums(plain_cut(film, pair), prices).items():
            found[goal] = min(found.get(goal, total + price), total + price)
    return found


def some_prices(size, seed):
    draw = random.Random(seed)
    many = size - 1
    return (tuple(range(1, size)), tuple(range(many, 0, -1)), (0,) * many, (1000,) * many,
            tuple(draw.randint(0, 1000) for _ in range(many)), tuple(draw.randint(0, 5) for _ in range(many)))


class Blocks(PlainCase):

    def check(self, film, goal, good):
        self.same(partings_by_cuts(film, goal), plain_by_cuts(film, good), film, goal)
        longest = longest_of(film, good)
        self.same(evenest(film, goal), min(longest, default=None), film, goal)
        self.same(longest_block(film, goal), max(longest, default=None), film, goal)
        self.same(kept_ends(film, goal), plain_kept(film, good) if good else None, film, goal)
        for most in range(1, len(film) + 1):
            self.same(comes_within(film, goal, most), min(longest, default=len(film) + 1) <= most, film, goal, most)

    def test_against_all_partings(self):
        for film, goal in pairs():
            self.check(film, goal, plain_partings(film, goal))

    def test_films_of_more_letters_against_all_partings(self):
        for film, goal in (("aabba" * 40, "aabba" * 39 + "aba"), ("abcd" * 50, "abcd" * 49),
                           ("abc" * 66, "ab" + "abc" * 65)):
            partings = [parting_at(film, goal, rank) for rank in range(count_partings(film, goal))]
            self.assertLess(len(partings), 5000)
            self.check(film, goal, partings)

    def test_small(self):
        self.same(partings_by_cuts("a", "a"), (1,))
        self.same(partings_by_cuts("a", "b"), ())
        self.same(partings_by_cuts("aa", "a"), (0, 1))
        self.same(partings_by_cuts("a", "aa"), ())
        self.same(comes_within("a", "a", 1), True)
        self.same(comes_within("a", "b", 1), False)
        self.same(evenest("a", "a"), 1)
        self.same(longest_block("a", "a"), 1)
        self.same(kept_ends("a", "a"), (0,))
        for call in (evenest, longest_block, kept_ends):
            self.same(call("ab", "ba"), None)
            self.same(call("ab", "ab" * 100), None)

    def test_long_films(self):
        for film in LONG_FILMS:
            self.same(partings_by_cuts(film, film), (1,))
            self.same(evenest(film, film), 1)
            self.same(longest_block(film, film), 1)
            self.same(kept_ends(film, film), tuple(range(200)))
            self.same(comes_within(film, film, 1), True)
            self.same(partings_by_cuts(film, "h" + film[1:]), (), film)
        # A block of k letters a is one of the ways to write numbers from 1 on that add up to 200.
        wanted = tuple(comb(100, longer) * comb(99, longer - 1) if longer else 0 for longer in range(101))
        self.same(partings_by_cuts("a" * 200, "a" * 100), wanted)
        self.same(evenest("a" * 200, "a" * 100), 2)
        self.same(evenest("a" * 200, "a" * 3), 67)
        self.same(longest_block("a" * 200, "a" * 100), 101)
        self.same(kept_ends("a" * 200, "a" * 100), (199,))
        self.same(comes_within("a" * 200, "a" * 100, 1), False)
        self.same(comes_within("a" * 200, "a" * 100, 2), True)
        self.same(comes_within("a" * 200, "a", 199), False)
        self.same(comes_within("a" * 200, "a", 200), True)
        self.same(evenest("ab" * 100, "ab"), 101)
        self.same(longest_block("ab" * 100, "ab"), 199)
        self.same(evenest("abcdefgh" * 25, "abcdefgh"), 25)
        self.same(longest_block("abcdefgh" * 25, "abcdefgh"), 193)

    def test_counts_of_long_films(self):
        draw = random.Random(41)
        for film in LONG_FILMS:
            goal = film[:draw.randint(20, 100)] + film[-40:]
            counts = partings_by_cuts(film, goal)
            self.assertEqual(sum(counts), count_partings(film, goal))
            fewest = [number for number, count in enumerate(counts) if count]
            self.same(fewest_cuts(film, goal), fewest[0] if fewest else None)
            self.assertNotEqual(counts[-1:], (0,))


class Prices(PlainCase):

    def test_all_rows_of_small_films(self):
        for film in [*dict.fromkeys(film for film, _ in pairs_of_two())]:
            if len(film) > 5:
                continue
            for prices in some_prices(len(film), len(film)):
                best = {}
                for rows, end in plain_rows(film):
                    total = sum(prices[second - first - 1] for first, second in rows)
                    best[end] = min(best.get(end, total), total)
                for goal in numbers_by_goal(film):
                    self.same(cheapest(film, goal, prices), best[goal], film, goal, prices)

    def test_more_films(self):
        for film, goal in [pair for pair in pairs_of_two() if len(pair[0]) == 6] + list(pairs_of_more()):
            for prices in some_prices(len(film), 42):
                self.same(cheapest(film, goal, prices), plain_sums(film, prices).get(goal), film, goal, prices)

    def test_films_of_12_letters(self):
        films = some_films("ab", (12,), 3, 43) + some_films("abc", (11, 12), 3, 44)
        for film in films + ["a" * 12, "ab" * 6, "abcd" * 3]:
            for prices in some_prices(len(film), 45):
                sums = plain_sums(film, prices)
                for goal in list(sums)[:50] + ["h", film + "a"]:
                    self.same(cheapest(film, goal, prices), sums.get(goal), film, goal, prices)

    def test_small(self):
        self.same(cheapest("a", "a", ()), 0)
        self.same(cheapest("a", "b", ()), None)
        self.same(cheapest("aa", "a", (7,)), 7)
        self.same(cheapest("aa", "a", (0,)), 0)
        self.same(cheapest("aa", "a", (1000,)), 1000)
        self.same(cheapest("aa", "a" * 200, (1000,)), None)
        self.same(cheapest("a" * 12, "a", (1000,) * 10 + (999,)), 999)

    def test_prices_that_are_none(self):
        for value in NO_INTEGERS + (0, 1, (1,), (1, 2, 3), [1, 2], {0: 1, 1: 2}, "12", ((1, 2),), (1, -1), (-1, 1),
                                    (1001, 1), (1, 1001), (10 ** 30, 1), (True, 1), (1, False), (None, 1), (1, "1"),
                                    ([], 1), (1, (2,)), (1, {})):
            self.fails(BadNumber, cheapest, "aaa", "a", value)
            self.fails(BadNumber, cheapest, "aaa", "b", value)
        self.fails(BadNumber, cheapest, "a", "a", (0,))
        self.fails(BadNumber, cheapest, "a", "a", [])

    def test_too_long(self):
        for film in ("a" * 13, "ab" * 10, "abcdefgh" * 25):
            self.fails(TooLong, cheapest, film, "a", (1,) * (len(film) - 1), most=12)
            self.fails(TooLong, cheapest, film, "h", (1,) * (len(film) - 1), most=12)
            self.fails(BadNumber, cheapest, film, "a", (1,) * 11)
            self.fails(BadNumber, cheapest, film, "a", None)
            self.fails(BadNumber, cheapest, film, "a", (True,) * (len(film) - 1))
            self.fails(BadFilm, cheapest, film, "i", (1,) * (len(film) - 1), place=0)
            self.fails(BadFilm, cheapest, film[1:] + "i", "a", (), place=len(film) - 1)
        self.same(cheapest("a" * 12, "a", (5,) * 11), 5)


class WrongValues(PlainCase):

    def test_no_films(self):
        for call, more in ((partings_by_cuts, ()), (comes_within, (1,)), (evenest, ()), (longest_block, ()),
                           (kept_ends, ()), (cheapest, ((),))):
            self.fails_for_no_film(BadFilm, call, behind=("a",) + more)
            self.fails_for_no_film(BadFilm, call, ahead=("a",), behind=more)
        for call, more in ((partings_by_cuts, ()), (comes_within, (0,)), (evenest, ()), (longest_block, ()),
                           (kept_ends, ()), (cheapest, (None,))):
            self.fails(BadFilm, call, "abi", "ix", *more, place=2)
            self.fails(BadFilm, call, "ab", "ix", *more, place=0)

    def test_most(self):
        for value in NO_INTEGERS + (0, -1, 4, 5, 200, 10 ** 30):
            self.fails(BadNumber, comes_within, "aaa", "a", value)
            self.fails(BadNumber, comes_within, "aaa", "b", value)
        self.same(comes_within("aaa", "a", 1), False)
        self.same(comes_within("aaa", "a", 3), True)
        self.fails(BadNumber, comes_within, "a" * 200, "a", 201)
        self.fails(BadNumber, comes_within, "a", "aaa", 2)
