"""Points 6 and 7: how few and how many cuts."""

from jumpcuts.cuts import cuts, play
from jumpcuts.errors import BadFilm, TooLong
from jumpcuts.numbers import block_most, cut_numbers, fewest_cuts, most_cuts, most_in_all, shows_cuts, some_cuts
from jumpcuts.partings import count_partings, parting_at

from tests.plain import (
    LONG_FILMS, PlainCase, films_of, longer_blocks, numbers_by_goal, pairs, pairs_of_two, plain_partings, plain_rows,
    some_films,
)

NO_ROWS = (
    None, True, False, 0, 1, "", "ab", [], [(0, 2)], {}, {0: 2}, (0, 2), (None,), ((0, 2, 0),), ([0, 2],), ((0, None),),
    ((False, 2),), ((0, "2"),), ((2, 0),), ((0, 0),), ((0, 1),), ((0, 4),), ((-4, 2),), (((0, 2),),), ("02",),
    ((0, 2), (0, 2)), ((0, 2), None),
)


def numbers_for(film, goal):
    return numbers_by_goal(film).get(goal, set())


def plain_most(film, first, last, kept):
    """The number f of the document, for like letters at two places."""
    if first == last:
        return 0
    if (first, last) not in kept:
        kept[first, last] = max(plain_most(film, first, middle, kept) + 1 + plain_sum(film, middle + 1, last, kept)
                                for middle in range(first, last) if film[middle] == film[first])
    return kept[first, last]


def plain_sum(film, start, stop, kept):
    """The number g of the document, for what stands from start up to stop, which is not included."""
    if start >= stop:
        return 0
    if (start, stop, "sum") not in kept:
        kept[start, stop, "sum"] = max(plain_most(film, start, end, kept) + plain_sum(film, end + 1, stop, kept)
                                       for end in range(start, stop) if film[end] == film[start])
    return kept[start, stop, "sum"]


class Fewest(PlainCase):

    def test_fewest(self):
        for film, goal in pairs():
            self.same(fewest_cuts(film, goal), min(numbers_for(film, goal), default=None), film, goal)

    def test_fewest_is_the_least_number_of_longer_blocks(self):
        for film, goal in pairs():
            wanted = min((longer_blocks(film, parting) for parting in plain_partings(film, goal)), default=None)
            self.same(fewest_cuts(film, goal), wanted, film, goal)

    def check_some(self, film, goal, wanted):
        rows = some_cuts(film, goal)
        if wanted is None:
            self.same(rows, None, film, goal)
            return
        self.assertIs(type(rows), tuple)
        self.assertTrue(all(type(pair) is tuple and [type(place) for place in pair] == [int, int] for pair in rows))
        self.assertEqual(len(rows), wanted)
        self.same(play(film, rows), goal, film, rows)
        self.same(shows_cuts(film, goal, rows), True, film, goal)

    def test_some(self):
        for film, goal in pairs():
            self.check_some(film, goal, min(numbers_for(film, goal), default=None))

    def test_shows(self):
        for film, goal in pairs_of_two():
            if len(film) > 5:
                continue
            fewest = min(numbers_for(film, goal), default=None)
            for rows, end in plain_rows(film):
                self.same(shows_cuts(film, goal, rows), end == goal and len(rows) == fewest, film, goal, rows)

    def test_shows_of_any_value(self):
        self.same(shows_cuts("abab", "ab", ((1, 3),)), True)
        for value in NO_ROWS:
            kept = repr(value)
            self.same(shows_cuts("abab", "ab", value), False, value)
            self.same(shows_cuts("ab", "ba", value), False, value)
            self.same(shows_cuts("ab", "ab", value), False, value)
            self.assertEqual(repr(value), kept)
        self.same(shows_cuts("ab", "ab", ()), True)
        self.same(shows_cuts("ab", "ba", ()), False)
        self.same(shows_cuts("ab", "a", ()), False)
        self.same(shows_cuts("aaa", "a", ((0, 1), (0, 1))), False)
        self.same(shows_cuts("aab", "ab", ((False, True),)), False)
        self.same(shows_cuts("aab", "ab", ((0, 1),)), True)

    def test_long_films(self):
        for film in LONG_FILMS:
            self.same(fewest_cuts(film, film), 0)
            self.same(some_cuts(film, film), ())
            self.same(fewest_cuts(film, "h"), None)
            self.same(some_cuts(film, "hh"), None)
        self.check_some("a" * 200, "a", 1)
        self.check_some("a" * 200, "a" * 100, 1)
        self.check_some("ab" * 100, "ab" * 50, 1)
        self.check_some("abcdefgh" * 25, "abcdefgh", 1)
        self.check_some("abcdefgh" * 25, "abcdefgh" * 24, 1)
        self.check_some("aabb" * 50, "ab" * 50, 100)
        self.check_some("aab" * 66 + "ab", "ab", 1)
        self.check_some("aab" * 66 + "ab", "ab" * 67, 66)
        self.same(fewest_cuts("ab", "ab" * 100), None)

    def test_long_films_against_all_numbers_of_partings(self):
        film, goal = "aabba" * 40, "aabba" * 39 + "aba"
        many = count_partings(film, goal)
        self.assertLess(many, 5000)
        partings = [parting_at(film, goal, rank) for rank in range(many)]
        self.check_some(film, goal, min((longer_blocks(film, parting) for parting in partings), default=None))


class Most(PlainCase):

    def test_most(self):
        for film, goal in pairs():
            self.same(most_cuts(film, goal), max(numbers_for(film, goal), default=None), film, goal)

    def test_numbers(self):
        for film, goal in pairs():
            self.same(cut_numbers(film, goal), tuple(sorted(numbers_for(film, goal))), film, goal)

    def test_most_in_all_and_block_most(self):
        for film in films_of("ab", 1, 8) + films_of("abc", 3, 5) + some_films("abcd", (7, 8, 9), 30, 31):
            self.same(most_in_all(film), max(max(numbers) for numbers in numbers_by_goal(film).values()), film)
            self.same(block_most(film), max(numbers_for(film, film[0]), default=None), film)

    def test_films_of_40_letters_as_the_document_works_them_out(self):
        films = some_films("ab", (38, 40), 3, 32) + some_films("abc", (39, 40), 4, 33)
        films += some_films("abcdefgh", (40,), 3, 34)
        for film in films + ["a" * 40, "ab" * 20, "abcdefgh" * 5, "aabb" * 10]:
            kept = {}
            self.same(most_in_all(film), plain_sum(film, 0, len(film), kept), film)
            wanted = plain_most(film, 0, len(film) - 1, kept) if film[0] == film[-1] else None
            self.same(block_most(film), wanted, film)
            self.same(most_cuts(film, film), 0)
            self.same(most_cuts(film, film[0]), wanted, film)

    def test_numbers_of_films_of_24_letters(self):
        self.same(cut_numbers("a" * 24, "a"), tuple(range(1, 24)))
        self.same(cut_numbers("a" * 24, "a" * 12), tuple(range(1, 13)))
        self.same(cut_numbers("ab" * 12, "ab"), tuple(range(1, 12)))
        self.same(cut_numbers("a" * 24, "b"), ())
        for film in some_films("abc", (23, 24), 6, 35):
            for goal in (film[0], film[0] + film[-1], film[:12] + film[-1], film):
                numbers = cut_numbers(film, goal)
                if not numbers:
                    self.same(fewest_cuts(film, goal), None)
                    continue
                self.same(numbers[0], fewest_cuts(film, goal), film, goal)
                self.same(numbers[-1], most_cuts(film, goal), film, goal)
                self.assertEqual(list(numbers), sorted(set(numbers)))

    def test_small(self):
        self.same(block_most("a"), 0)
        self.same(block_most("ab"), None)
        self.same(most_in_all("a"), 0)
        self.same(most_cuts("a", "a"), 0)
        self.same(most_cuts("a", "b"), None)
        self.same(cut_numbers("a", "a"), (0,))
        self.same(cut_numbers("a", "b"), ())
        self.same(cut_numbers("ab", "abab"), ())
        self.same(most_cuts("ab", "ab" * 100), None)
        self.same(cut_numbers("a" * 24, "a" * 200), ())
        self.same(most_cuts("a" * 40, "a" * 200), None)


class WrongValues(PlainCase):

    def test_no_films(self):
        for call, more in ((fewest_cuts, ()), (some_cuts, ()), (shows_cuts, (None,)), (most_cuts, ()),
                           (cut_numbers, ())):
            self.fails_for_no_film(BadFilm, call, behind=("a",) + more)
            self.fails_for_no_film(BadFilm, call, ahead=("a",), behind=more)
            self.fails(BadFilm, call, "abi", "ix", *more, place=2)
        for call in (most_in_all, block_most):
            self.fails_for_no_film(BadFilm, call)

    def test_too_long(self):
        for film in ("a" * 40, "ab" * 20, "abcdefgh" * 5):
            self.same(most_cuts(film, film), 0)
            self.same(most_in_all(film), len(cuts_one_by_one(film)))
            self.fails(TooLong, most_cuts, film + "a", "a", most=40)
            self.fails(TooLong, most_in_all, film + "a", most=40)
            self.fails(TooLong, block_most, film + "b", most=40)
        self.fails(TooLong, most_cuts, "a" * 200, "b", most=40)
        self.fails(TooLong, cut_numbers, "a" * 25, "a", most=24)
        self.fails(TooLong, cut_numbers, "ab" * 100, "c", most=24)

    def test_too_long_comes_last(self):
        self.fails(BadFilm, most_cuts, "a" * 41, "ai", place=1)
        self.fails(BadFilm, most_cuts, "a" * 41, None, place=None)
        self.fails(BadFilm, most_cuts, "a" * 40 + "i", "a", place=40)
        self.fails(BadFilm, cut_numbers, "a" * 25, "", place=None)
        self.fails(BadFilm, most_in_all, "a" * 41 + "x", place=41)
        self.fails(BadFilm, block_most, "x" + "a" * 41, place=0)

    def test_the_goal_may_be_longer(self):
        self.same(most_cuts("a", "a" * 41), None)
        self.same(cut_numbers("a", "a" * 25), ())


def cuts_one_by_one(film):
    """A row of tight cuts that takes the last cut each time, which is the longest row for films such as those above."""
    rows = []
    while cuts(film):
        pair = [(i, j) for i, j in cuts(film) if film[i] not in film[i + 1:j]][-1]
        rows.append(pair)
        film = play(film, (pair,))
    return rows
