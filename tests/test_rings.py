"""Point 26: rings, told by films that go once around."""

import random
from functools import lru_cache
from math import comb

from jumpcuts.errors import BadFilm, TooLong
from jumpcuts.rings import (
    is_last_ring, ring_comes, ring_fewest, ring_name, ring_next, ring_outcomes, ring_partings, ring_period,
    ring_shortest, same_ring,
)

from tests.plain import LONG_FILMS, PlainCase, films_of, plain_goals, plain_partings, some_films

ALL = "abcdefgh"
OF_ONE = (ring_name, ring_period, ring_next, is_last_ring, ring_shortest, ring_outcomes)
OF_TWO = (same_ring, ring_comes, ring_fewest, ring_partings)
OF_60 = (ring_comes, ring_fewest, ring_partings)


def turns(film):
    return [film[at:] + film[:at] for at in range(len(film))]


def plain_name(film):
    return sorted(turns(film))[0]


def ring_cuts(film):
    """All cuts of a ring, as pairs of two unlike places with the same letter."""
    size = len(film)
    return [(one, other) for one in range(size) for other in range(size) if one != other and film[one] == film[other]]


def behind_ring_cut(film, one, other):
    """A film for the ring that is left: all behind one place up to and with the other one is cut out."""
    gone = set()
    at = one
    while at != other:
        at = (at + 1) % len(film)
        gone.add(at)
    return "".join(letter for place, letter in enumerate(film) if place not in gone)


@lru_cache(maxsize=None)
def plain_next(name):
    return sorted({plain_name(behind_ring_cut(name, one, other)) for one, other in ring_cuts(name)})


@lru_cache(maxsize=None)
def plain_levels(name):
    """By the names of all rings to which cuts lead, the fewest cuts."""
    found = {name: 0}
    level = [name]
    while level:
        further = []
        for each in level:
            for then in plain_next(each):
                if then not in found:
                    found[then] = found[each] + 1
                    further.append(then)
        level = further
    return found


def ways_by_end(film, goal):
    """By places, how many ways there are to part a film up to there for all of a goal, and the fewest longer blocks."""
    ways = {0: (1, 0)}
    for letter in goal:
        behind = {}
        for start, (many, longer) in ways.items():
            if film[start:start + 1] == letter:
                for end in range(start, len(film)):
                    if film[end] == letter:
                        had, least = behind.get(end + 1, (0, len(film)))
                        behind[end + 1] = (had + many, min(least, longer + (end > start)))
        ways = behind
    return ways.get(len(film), (0, None))


def small_rings():
    films = films_of("ab", 1, 7) + films_of("abc", 1, 5) + some_films("abc", (6, 7, 8), 40, 341)
    films += some_films("abcd", (7, 8, 9), 30, 342) + some_films(ALL, (9, 10), 25, 343)
    return films + ["aabbaabb", "abcabcabc"]


def ring_goals(film, draw):
    """Rings that come of a ring, turned, others nearly like them, and longer ones."""
    goals = []
    for name in plain_levels(plain_name(film)):
        goals.append(draw.choice(turns(name)))
        at = draw.randrange(len(name))
        goals.append(name[:at] + draw.choice("abc") + name[at:])
        if len(name) > 1:
            goals.append(name[:at] + name[at + 1:])
        goals.append(name[::-1])
    return goals + [film, film[1:] + film[:1], film + film, film + "a", "h", "c" * (len(film) + 1)]


class Names(PlainCase):

    def test_small_rings(self):
        for film in small_rings():
            self.same(ring_name(film), plain_name(film), film)
            period = min(at for at in range(1, len(film) + 1) if film[at:] + film[:at] == film)
            self.same(ring_period(film), period, film)
            self.same(is_last_ring(film), not ring_cuts(film), film)

    def test_same_ring(self):
        small = films_of("ab", 1, 5) + films_of("abc", 3, 3)
        for one in small:
            for other in small:
                self.same(same_ring(one, other), other in turns(one), one, other)
        for film in some_films("abcd", (6, 9), 30, 344):
            for each in turns(film):
                self.same(same_ring(film, each), True)
            self.same(same_ring(film, film + film), False)

    def test_long_rings(self):
        for film in LONG_FILMS + tuple(some_films(ALL, (200,), 2, 345)) + ("abb" * 66 + "a", "b" * 199 + "a"):
            self.same(ring_name(film), plain_name(film))
            self.same(is_last_ring(film), False)
            period = min(at for at in range(1, 201) if film[at:] + film[:at] == film)
            self.same(ring_period(film), period)
            for at in (1, 77, 199):
                self.same(same_ring(film, film[at:] + film[:at]), True)
            self.same([same_ring(film, film[:-1]), same_ring(film, film[:-1] + "h"), same_ring("h", film)],
                      [False, film[-1] == "h", False])
        self.same([ring_period("a" * 200), ring_period("ab" * 100), ring_period("a" * 199 + "b")], [1, 2, 200])
        self.same([is_last_ring("abcdefgh"), is_last_ring("h"), is_last_ring("abcdefgha")], [True, True, False])
        self.same([ring_name("h"), ring_period("h"), ring_name("hgfedcba"), ring_period("abcdefgh")],
                  ["h", 1, "ahgfedcb", 8])


class Cuts(PlainCase):

    def test_next_and_outcomes(self):
        for film in small_rings():
            name = plain_name(film)
            self.same(ring_next(film), plain_next(name), film)
            self.same(ring_outcomes(film), sorted(plain_levels(name)), film)
            self.same(ring_shortest(film), min(len(each) for each in plain_levels(name)), film)

    def test_turned_rings(self):
        for film in some_films("ab", (8, 9), 6, 346) + some_films("abc", (9,), 6, 347):
            for each in turns(film):
                self.same([ring_next(each), ring_outcomes(each), ring_shortest(each)],
                          [ring_next(film), ring_outcomes(film), ring_shortest(film)])

    def test_goals(self):
        draw = random.Random(348)
        for film in small_rings():
            levels = plain_levels(plain_name(film))
            for goal in ring_goals(film, draw):
                fewest = levels.get(plain_name(goal))
                self.same(ring_comes(film, goal), fewest is not None, film, goal)
                self.same(ring_fewest(film, goal), fewest, film, goal)
                if len(film) < 9:
                    wanted = sum(len(plain_partings(each, goal)) for each in turns(film))
                    self.same(ring_partings(film, goal), wanted, film, goal)

    def test_all_goals_of_two_letters(self):
        for film in films_of("ab", 1, 5):
            levels = plain_levels(plain_name(film))
            for goal in films_of("ab", 1, 6):
                fewest = levels.get(plain_name(goal))
                self.same([ring_comes(film, goal), ring_fewest(film, goal)], [fewest is not None, fewest], film, goal)
                wanted = sum(len(plain_partings(each, goal)) for each in turns(film))
                self.same(ring_partings(film, goal), wanted, film, goal)

    def test_rings_of_12_letters(self):
        for film in ("aabbaabbaabb", "a" * 12, "abababababab", "aabbccaabbcc", "abcdefghabcd", "abcdefghhgfe"):
            levels = plain_levels(plain_name(film))
            self.same(ring_outcomes(film), sorted(levels), film)
            self.same(ring_shortest(film), min(len(each) for each in levels), film)
            for goal in sorted(levels)[::9]:
                self.same(ring_fewest(film, goal), levels[goal], film, goal)

    def test_small(self):
        for film in ("a", "h"):
            self.same([ring_next(film), ring_outcomes(film), ring_shortest(film), ring_partings(film, film)],
                      [[], [film], 1, 1])
            self.same([ring_comes(film, film), ring_fewest(film, film), ring_comes(film, "b")], [True, 0, False])
        self.same([ring_next("aa"), ring_fewest("aa", "a"), ring_partings("aa", "a"), ring_partings("aa", "aa")],
                  [["a"], 1, 2, 2])
        self.same([ring_next("ab"), ring_outcomes("ba"), ring_comes("ab", "ba"), ring_fewest("ab", "ba")],
                  [[], ["ab"], True, 0])
        self.same([ring_comes("abab", "a"), ring_comes("aba", "a"), ring_comes("baa", "a"), ring_comes("ab", "abab")],
                  [False, True, True, False])
        self.same([ring_fewest("ab", "aba"), ring_partings("ab", "aba"), ring_partings("abab", "abab")], [None, 0, 2])


class LargeRings(PlainCase):

    def large_rings(self):
        films = [film[:60] for film in LONG_FILMS[::2]] + some_films("ab", (60,), 1, 349)
        return films + some_films("abc", (59,), 1, 350) + some_films(ALL, (60,), 1, 351) + ["a" * 59 + "b", "aabb" * 15]

    def test_goals_by_random_cuts(self):
        draw = random.Random(352)
        for film in self.large_rings():
            goal = film
            for number in range(1, 5):
                pairs = [(one, other) for one, other in ring_cuts(goal) if (other - one) % len(goal) <= 12]
                if not pairs:
                    break
                goal = behind_ring_cut(goal, *draw.choice(pairs))
                turned = draw.choice(turns(goal))
                self.same(ring_comes(film, turned), True, film, turned)
                self.assertLessEqual(ring_fewest(film, turned), number)

    def test_goals_by_blocks(self):
        for film in self.large_rings():
            for goal in (film[0], film[:2], film[:30], film[5:20] + film[40:], film[20:] + film[:20], film + "a"):
                goal = goal[:60]
                parted = [ways_by_end(each, goal) for each in turns(film)]
                many = sum(number for number, _ in parted)
                self.same(ring_partings(film, goal), many, film, goal)
                self.same(ring_comes(film, goal), many > 0, film, goal)
                fewest = min((longer for number, longer in parted if number), default=None)
                self.same(ring_fewest(film, goal), fewest, film, goal)

    def test_next(self):
        for film in self.large_rings():
            wanted = {plain_name(behind_ring_cut(film, one, other)) for one, other in ring_cuts(film)[::7]}
            found = ring_next(film)
            self.assertTrue(wanted <= set(found), film)
            self.same(found, sorted(set(found)))
            self.assertTrue(all(plain_name(each) == each for each in found))
            self.assertTrue(all(ring_fewest(film, each) == 1 for each in found[::97]))
        film = some_films(ALL, (60,), 1, 353)[0]
        self.same(ring_next(film), sorted({plain_name(behind_ring_cut(film, *pair)) for pair in ring_cuts(film)}))

    def test_shortest(self):
        for film in self.large_rings():
            least = ring_shortest(film)
            short = films_of("".join(sorted(set(film))), 1, min(least, 3))
            for goal in short:
                come = any(ways_by_end(each, goal)[0] for each in turns(film))
                self.assertTrue(not come or len(goal) >= least, (film, goal))
            if least <= 3:
                self.assertTrue(any(ways_by_end(each, goal)[0] for goal in short if len(goal) == least
                                    for each in turns(film)), film)
        self.same([ring_shortest("a" * 60), ring_shortest("ab" * 30), ring_shortest("abcdefgh" * 7)], [1, 2, 8])

    def test_known_numbers(self):
        for size in (1, 2, 30, 60):
            self.same(ring_partings("a" * 60, "a" * size), 60 * comb(59, size - 1))
        self.same([ring_fewest("a" * 60, "a"), ring_fewest("a" * 60, "a" * 60), ring_fewest("ab" * 30, "ba")],
                  [1, 0, 1])
        self.same(ring_next("a" * 60), ["a" * size for size in range(1, 60)])
        self.same(ring_next("ab" * 30), ["ab" * size for size in range(1, 30)])


class WrongValues(PlainCase):

    def test_no_films(self):
        for call in OF_ONE:
            self.fails_for_no_film(BadFilm, call)
        for call in OF_TWO:
            self.fails_for_no_film(BadFilm, call, behind=("a",))
            self.fails_for_no_film(BadFilm, call, behind=("a" * 61,))
            self.fails_for_no_film(BadFilm, call, ahead=("a",))
            self.fails_for_no_film(BadFilm, call, ahead=("a" * 61,))
            self.fails(BadFilm, call, "abi", "xa", place=2)

    def test_too_long(self):
        for film in ("a" * 61, "ab" * 100, "abcdefgh" * 8):
            for call in OF_60:
                for other in ("a", "b" * 60, film):
                    self.fails(TooLong, call, film, other, most=60)
                    self.fails(TooLong, call, other, film, most=60)
            self.fails(TooLong, ring_next, film, most=60)
            self.fails(TooLong, ring_shortest, film, most=60)
            self.assertEqual(same_ring(film, film), True)
        for film in ("a" * 13, "abcdefghabcde", "a" * 60, "a" * 61, "ab" * 100):
            self.fails(TooLong, ring_outcomes, film, most=12)
        self.same(ring_outcomes("a" * 12), ["a" * size for size in range(1, 13)])

    def test_new_lists(self):
        for film in ("aba", "abc", "aabab"):
            self.gives_new_list(ring_next, film)
            self.gives_new_list(ring_outcomes, film)
