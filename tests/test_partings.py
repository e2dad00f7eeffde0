"""Points 4 and 5: what comes of what, partings and their order."""

from itertools import product
from math import comb

from jumpcuts.errors import BadFilm, BadNumber
from jumpcuts.partings import (
    blocks, comes, count_partings, ends, is_parting, parting_at, rank_of_parting, stuck,
)

from tests.plain import (
    LONG_FILMS, NO_INTEGERS, PlainCase, numbers_by_goal, pairs, pairs_of_two, plain_blocks, plain_partings,
)

NO_PARTINGS = NO_INTEGERS + (
    0, 3, -1, "03", [0, 3], [(0, 3)], {0: 3}, (3,), (0,), (0, 1, 3), (0, 3, 3), (3, 0), (3, 3), (0, 2), (1, 3),
    (-4, 3), (0, -1), (0, 4), (2, 4), (0, 10 ** 30), (False, 3), (0, True), (None, 3), (0, None), ("0", "3"),
    ((0,), (3,)), ([0], [3]), ({}, {}), (0, (3,)), ((0, 3),), ("0", 3),
)


def plain_ends(film, goal):
    """For each goal letter the ends of the last blocks of all partings of beginnings of the film up to it."""
    found = []
    for many in range(1, len(goal) + 1):
        stops = [stop for stop in range(1, len(film) + 1) if plain_partings(film[:stop], goal[:many])]
        if not stops:
            break
        found.append(tuple(stop - 1 for stop in stops))
    return tuple(found)


class Comes(PlainCase):

    def test_comes_if_there_is_a_row_of_cuts(self):
        for film, goal in pairs():
            self.same(comes(film, goal), goal in numbers_by_goal(film), film, goal)

    def test_ends_and_stuck(self):
        for film, goal in pairs():
            wanted = plain_ends(film, goal)
            self.same(ends(film, goal), wanted, film, goal)
            self.same(stuck(film, goal), None if plain_partings(film, goal) else len(wanted), film, goal)

    def test_small(self):
        self.same(comes("a", "a"), True)
        self.same(comes("a", "b"), False)
        self.same(comes("a", "aa"), False)
        self.same(ends("a", "b"), ())
        self.same(ends("a", "aa"), ((0,),))
        self.same(stuck("a", "b"), 0)
        self.same(stuck("ab", "a"), 1)
        self.same(stuck("ab", "ab" * 100), 2)

    def test_long_films(self):
        for film in LONG_FILMS:
            self.same(comes(film, film), True)
            self.same(ends(film, film)[0], tuple(place for place in range(200) if film[place] == film[0]))
            self.same(stuck(film, film), None)
            self.same(comes(film, "h" * 200), False)
        self.same(comes("ab" * 100, "ab"), True)
        self.same(comes("abcdefgh" * 25, "abcdefgh" * 7), True)
        self.same(stuck("abcdefgh" * 25, "abcdefgh" * 7 + "a"), 57)
        self.same(stuck("a" * 200, "a" * 199 + "b"), 199)
        self.same(ends("a" * 200, "a" * 200)[-1], (199,))
        self.assertEqual(len(ends("a" * 200, "a" * 200)), 200)


class Partings(PlainCase):

    def test_is_parting_and_blocks(self):
        for film, goal in pairs_of_two():
            if len(film) > 4:
                continue
            good = plain_partings(film, goal)
            for value in product(range(len(film)), repeat=min(len(goal), 4)):
                self.same(is_parting(film, goal, value), value in good, film, goal, value)
                self.same(blocks(film, goal, value), plain_blocks(film, value) if value in good else None)

    def test_blocks_of_all_partings(self):
        for film, goal in pairs():
            for rank, value in enumerate(plain_partings(film, goal)):
                self.same(is_parting(film, goal, value), True, film, goal, value)
                self.same(blocks(film, goal, value), plain_blocks(film, value), film, goal, value)
                self.same(rank_of_parting(film, goal, value), rank, film, goal, value)

    def test_count_and_order(self):
        for film, goal in pairs():
            good = plain_partings(film, goal)
            self.same(count_partings(film, goal), len(good), film, goal)
            for rank in range(len(good) + 2):
                self.same(parting_at(film, goal, rank), good[rank] if rank < len(good) else None, film, goal, rank)

    def test_long_films(self):
        self.same(count_partings("a" * 200, "a" * 100), comb(199, 99))
        self.same(count_partings("a" * 200, "a" * 200), 1)
        self.same(parting_at("a" * 200, "a" * 200, 0), tuple(range(200)))
        self.same(parting_at("a" * 200, "a" * 100, comb(199, 99)), None)
        self.same(parting_at("a" * 200, "a" * 100, 0), tuple(range(99)) + (199,))
        self.same(parting_at("a" * 200, "a" * 100, comb(199, 99) - 1), tuple(range(100, 200)))
        self.same(rank_of_parting("a" * 200, "a" * 100, tuple(range(100, 200))), comb(199, 99) - 1)
        self.same(count_partings("ab" * 100, "ab" * 50), comb(149, 99))
        self.same(count_partings("ab" * 100, "ab"), 100)
        self.same(count_partings("abcdefgh" * 25, "abcdefgh"), comb(31, 7))
        self.same(blocks("a" * 200, "a", (199,)), ("a" * 200,))

    def test_ranks_of_long_films_lead_there_and_back(self):
        for film, goal in (("a" * 200, "a" * 100), ("ab" * 100, "ab" * 30), ("abcdefgh" * 25, "abcdefgh" * 10)):
            many = count_partings(film, goal)
            before = ()
            for share in range(12):
                rank = (many - 1) * share // 11
                value = parting_at(film, goal, rank)
                self.same(is_parting(film, goal, value), True)
                self.same(rank_of_parting(film, goal, value), rank)
                self.same("".join(block[0] for block in blocks(film, goal, value)), goal)
                self.same("".join(blocks(film, goal, value)), film)
                self.assertLess(before, value)
                before = value


class WrongValues(PlainCase):

    def test_values_of_which_is_told(self):
        self.same(is_parting("abab", "ab", (0, 3)), True)
        self.same(is_parting("abab", "ab", (2, 3)), True)
        for value in NO_PARTINGS:
            kept = repr(value)
            self.same(is_parting("abab", "ab", value), False, value)
            self.same(blocks("abab", "ab", value), None, value)
            self.same(rank_of_parting("abab", "ab", value), None, value)
            self.assertEqual(repr(value), kept)
        for value in ((True,), (1,), True, 1, [1], None, (0, 1)):
            good = repr(value) == "(1,)"
            self.same(is_parting("aa", "a", value), good, value)
            self.same(blocks("aa", "a", value), ("aa",) if good else None, value)
            self.same(rank_of_parting("aa", "a", value), 0 if good else None, value)
        for value in ((False,), False, 0, (0,)):
            self.same(is_parting("a", "a", value), repr(value) == "(0,)", value)

    def test_ranks(self):
        for value in NO_INTEGERS + (-1, -10 ** 30):
            self.fails(BadNumber, parting_at, "abab", "ab", value)
            self.fails(BadNumber, parting_at, "ab", "ba", value)
        self.same(parting_at("abab", "ab", 2), None)
        self.same(parting_at("abab", "ab", 10 ** 100), None)
        self.same(parting_at("ab", "ba", 0), None)

    def test_no_films(self):
        for call, more in ((comes, ()), (ends, ()), (stuck, ()), (count_partings, ()), (blocks, ((0,),)),
                           (is_parting, (None,)), (parting_at, (0,)), (rank_of_parting, ([],))):
            self.fails_for_no_film(BadFilm, call, behind=("a",) + more)
            self.fails_for_no_film(BadFilm, call, ahead=("a",), behind=more)

    def test_the_leftmost_comes_first(self):
        for call, more in ((comes, ()), (ends, ()), (stuck, ()), (count_partings, ()), (blocks, (None,)),
                           (is_parting, (None,)), (parting_at, (-1,)), (rank_of_parting, (None,))):
            self.fails(BadFilm, call, "abi", "ix", *more, place=2)
            self.fails(BadFilm, call, "a", "xa", *more, place=0)
            self.fails(BadFilm, call, None, "xa", *more, place=None)
