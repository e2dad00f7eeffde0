"""Point 29: drawn walks, their chances and means."""

import random
from fractions import Fraction
from itertools import combinations
from math import gcd

from jumpcuts.drawn import mean_path, mean_steps, meets_first, path_chance, visit_mean
from jumpcuts.errors import BadFilm, BadLetter, BadWeb, NoWalk, NoWay
from jumpcuts.walks import loop_cut, paths

from tests.plain import ALL_TIES, NO_LETTER, NO_WEBS, PlainCase, some_webs

ALL = "abcdefgh"
LINE = ("ab", "bc", "cd", "de", "ef", "fg", "gh")
RING = ("ab", "af", "bc", "cd", "de", "ef")
TWO_PARTS = ("ab", "ac", "bc", "de", "ef")
TREE = ("ab", "ac", "bd", "be", "cf")


def near(web, letter):
    return [other for other in ALL if letter + other in web or other + letter in web]


def part(web, letter):
    found = [letter]
    for each in found:
        found += [other for other in near(web, each) if other not in found]
    return found


def told(number):
    return (number.numerator, number.denominator)


def webs():
    """All webs of the letters a, b, c, many of a to d, and some of more."""
    small = [web for many in range(4) for web in combinations(("ab", "ac", "bc"), many)]
    ties = [one + other for one, other in combinations("abcd", 2)]
    small += [web for many in range(2, 7) for web in combinations(ties, many)]
    six = [one + other for one, other in combinations("abcdef", 2)]
    draw = random.Random(381)
    small += [tuple(sorted(draw.sample(six, many))) for many in (5, 6, 7, 8, 10, 15) for _ in range(2)]
    return small + [TREE, LINE, RING, TWO_PARTS] + some_webs(3, 382)


def ways(web):
    """All pairs of unlike letters between which there is a walk."""
    return [(first, last) for first in ALL for last in part(web, first) if first != last]


def plain_visits(web, start, gone):
    """The mean number of visits at a letter of a walk that begins there and ends at some other letters.

    The chance to come back ahead of those is worked out by taking the other letters away one by
    one, their steps going on to their neighbors.
    """
    steps = {letter: {} for letter in part(web, start)}
    for letter in steps:
        if letter not in gone:
            steps[letter] = {other: Fraction(1, len(near(web, letter))) for other in near(web, letter)}
    for letter in [letter for letter in steps if letter != start and letter not in gone]:
        row = steps.pop(letter)
        stay = row.pop(letter, 0)
        for other in steps.values():
            chance = other.pop(letter, 0)
            for behind, more in row.items():
                if chance:
                    other[behind] = other.get(behind, 0) + chance * more / (1 - stay)
    return Fraction(1) / (1 - steps[start].get(start, 0))


def plain_chance(web, path):
    """The chance of a path as the document tells it."""
    chance = Fraction(1)
    for at, letter in enumerate(path[:-1]):
        chance *= plain_visits(web, letter, path[:at] + path[-1]) / len(near(web, letter))
    return chance


class Ratios(PlainCase):

    def value(self, got):
        """The fraction of a ratio, which is told as it should be."""
        self.assertIs(type(got), tuple)
        self.assertEqual([type(number) for number in got], [int, int])
        top, low = got
        self.assertGreater(low, 0)
        self.assertEqual(gcd(top, low), 1)
        return Fraction(top, low)


class Steps(Ratios):

    def test_mean_steps_by_neighbors(self):
        for web in webs():
            means = {pair: self.value(mean_steps(web, *pair)) for pair in ways(web)}
            for first, last in means:
                behind = [means.get((other, last), 0) for other in near(web, first)]
                self.assertEqual(means[first, last], 1 + Fraction(sum(behind), len(behind)), (web, first, last))

    def test_known_steps(self):
        self.same([mean_steps(ALL_TIES, "a", "b"), mean_steps(ALL_TIES, "h", "d")], [(7, 1), (7, 1)])
        # From one end of a line of ties to the other it takes the square of their number.
        for at, last in enumerate("bcdefgh"):
            self.same(mean_steps(LINE, "a", last), ((at + 1) ** 2, 1))
        # Around a ring of six, the product of the ties on both ways.
        for at, last in enumerate("bcdef"):
            self.same(mean_steps(RING, "a", last), ((at + 1) * (5 - at), 1))
        self.same([mean_steps(("ab",), "a", "b"), mean_steps(("gh",), "h", "g")], [(1, 1), (1, 1)])
        self.same([mean_steps(TWO_PARTS, "d", "e"), mean_steps(TWO_PARTS, "e", "d"), mean_steps(TWO_PARTS, "a", "c")],
                  [(1, 1), (3, 1), (2, 1)])


class Visits(Ratios):

    def test_visit_means_by_neighbors(self):
        for web in webs()[::2]:
            for first, last in ways(web):
                for letter in part(web, first):
                    if letter != last:
                        mean = self.value(visit_mean(web, first, last, letter))
                        behind = [self.value(visit_mean(web, other, last, letter)) if other != last else 0
                                  for other in near(web, first)]
                        wanted = (letter == first) + Fraction(sum(behind), len(behind))
                        self.assertEqual(mean, wanted, (web, first, last, letter))

    def test_visits_are_steps(self):
        for web in webs():
            for first, last in ways(web)[::3]:
                total = sum(self.value(visit_mean(web, first, last, letter)) for letter in part(web, first)
                            if letter != last)
                self.same(told(total), mean_steps(web, first, last), web, first, last)
                self.same(told(plain_visits(web, first, last)), visit_mean(web, first, last, first))

    def test_known_visits(self):
        # From c, seven ties from a to h: the walk has h ahead of a two of seven times, and then seven times.
        self.same([visit_mean(("ab",), "a", "b", "a"), visit_mean(LINE, "a", "h", "a"), visit_mean(LINE, "a", "c", "h"),
                   visit_mean(LINE, "c", "a", "h"), visit_mean(ALL_TIES, "a", "b", "c")],
                  [(1, 1), (7, 1), (0, 1), (2, 1), (7, 8)])


class First(Ratios):

    def test_meets_first_by_neighbors(self):
        for web in webs()[::2]:
            for first, one in ways(web):
                for other in ALL:
                    if other not in (first, one):
                        chance = self.value(meets_first(web, first, one, other))
                        known = {one: Fraction(1), other: Fraction(0)}
                        behind = [known[each] if each in known else self.value(meets_first(web, each, one, other))
                                  for each in near(web, first)]
                        self.assertEqual(chance, sum(behind) / len(behind), (web, first, one, other))
                        if other not in part(web, first):
                            self.assertEqual(chance, 1)
                        else:
                            self.assertEqual(chance + self.value(meets_first(web, first, other, one)), 1)

    def test_known_chances(self):
        self.same([meets_first(LINE, "c", "a", "h"), meets_first(LINE, "c", "h", "a"), meets_first(LINE, "a", "h", "c"),
                   meets_first(LINE, "a", "c", "h"), meets_first(ALL_TIES, "a", "b", "c"),
                   meets_first(TWO_PARTS, "a", "b", "d"), meets_first(TWO_PARTS, "a", "b", "h")],
                  [(5, 7), (2, 7), (0, 1), (1, 1), (1, 2), (1, 1), (1, 1)])


class Paths(Ratios):

    def test_path_chances(self):
        for web in webs():
            for first, last in ways(web):
                found = paths(web, first, last)
                if len(found) > 70 and first != "a":
                    continue
                chances = {path: self.value(path_chance(web, path)) for path in found}
                self.assertEqual(sum(chances.values()), 1, (web, first, last))
                for path in found[::1 if len(found) < 9 else 7]:
                    self.assertEqual(chances[path], plain_chance(web, path), (web, path))
                mean = sum(len(path) * chance for path, chance in chances.items())
                self.same(mean_path(web, first, last), told(mean), web, first, last)

    def test_walks_gone_through(self):
        """The chances by the walks themselves, step by step, but for those that take very long."""
        for web in (("ab", "ac", "bc"), ("ab", "ac", "ad", "bc", "cd"), TREE, RING, ("ab", "ac", "bc", "bd", "cd")):
            for first, last in ways(web)[::2]:
                left = {first: 1.0}
                done = {}
                for _ in range(600):
                    then = {}
                    for path, chance in left.items():
                        for letter in near(web, path[-1]):
                            behind = loop_cut(path + letter)
                            to = done if letter == last else then
                            to[behind] = to.get(behind, 0) + chance / len(near(web, path[-1]))
                    left = then
                self.assertEqual(sorted(done), paths(web, first, last))
                for path, chance in done.items():
                    top, low = path_chance(web, path)
                    self.assertAlmostEqual(top / low, chance, 9)
                top, low = mean_path(web, first, last)
                self.assertAlmostEqual(top / low, sum(len(path) * chance for path, chance in done.items()), 8)

    def test_trees(self):
        for web in (LINE, TREE, ("ab",), ("ab", "ac", "ad", "ae", "af", "ag", "ah")):
            for first, last in ways(web):
                path = paths(web, first, last)[0]
                self.same([path_chance(web, path), mean_path(web, first, last)], [(1, 1), (len(path), 1)])

    def test_web_of_all_ties(self):
        total = Fraction(0)
        for path in paths(ALL_TIES, "c", "f"):
            total += self.value(path_chance(ALL_TIES, path))
        self.assertEqual(total, 1)
        # All 8 ** 6 trees of eight letters are drawn alike, and one of four times has such a tie.
        self.same([path_chance(ALL_TIES, "ab"), path_chance(ALL_TIES, "hgfedcba")], [(1, 4), (1, 8 ** 6)])
        self.same(mean_path(ALL_TIES, "a", "h"), mean_path(ALL_TIES, "d", "b"))
        self.same(mean_path(("ab", "ac", "bc"), "a", "b"), (7, 3))

    def test_ring(self):
        for at in range(1, 6):
            self.same(path_chance(RING, "abcdef"[:at + 1]), told(Fraction(6 - at, 6)), at)


class WrongValues(PlainCase):

    def test_webs(self):
        calls = ((path_chance, ("ab",)), (path_chance, ("xa",)), (mean_path, ("a", "b")), (mean_path, ("i", None)),
                 (mean_steps, ("a", "b")), (mean_steps, ("a", "a")), (visit_mean, ("a", "b", "a")),
                 (visit_mean, (None, 1, "xy")), (meets_first, ("a", "b", "c")), (meets_first, ("a", "a", "a")))
        for value, index in NO_WEBS:
            for call, more in calls:
                self.fails(BadWeb, call, value, *more, index=index)

    def test_paths(self):
        for web in ((), ("ab",), ALL_TIES):
            self.fails_for_no_film(BadFilm, path_chance, ahead=(web,))
        for web, path in (((), "ab"), (("ab",), "abc"), (("ab",), "aa"), (ALL_TIES, "abb"), (("ab", "cd"), "ac"),
                          ((), "a" * 200), (TWO_PARTS, "abcd")):
            self.fails(NoWalk, path_chance, web, path)
        for web, path in (((), "a"), (("ab",), "a"), (("ab",), "h"), (("ab",), "aba"), (ALL_TIES, "abcda"),
                          (ALL_TIES, "ab" * 100), (ALL_TIES, "abac")):
            self.fails(NoWay, path_chance, web, path)

    def test_letters(self):
        calls = ((mean_path, ()), (mean_steps, ()), (visit_mean, ("a",)), (visit_mean, ("i",)), (visit_mean, (None,)),
                 (meets_first, ("c",)), (meets_first, ("i",)), (meets_first, ("a",)))
        for value in NO_LETTER:
            for web in ((), ("ab",), ALL_TIES):
                for call, more in calls:
                    for other in ("a", "h", "i", None):
                        self.fails(BadLetter, call, web, value, other, *more)
                    self.fails(BadLetter, call, web, "a", value, *more)
            for web in (("ab",), ALL_TIES):
                self.fails(BadLetter, visit_mean, web, "a", "b", value)
                self.fails(BadLetter, meets_first, web, "a", "b", value)

    def test_no_way(self):
        calls = ((mean_path, ()), (mean_steps, ()), (visit_mean, ("a",)), (visit_mean, ("i",)), (visit_mean, (None,)),
                 (meets_first, ("h",)), (meets_first, ("i",)), (meets_first, (1,)))
        for web, first, last in (((), "a", "b"), ((), "a", "a"), (("ab",), "a", "a"), (("ab",), "a", "c"),
                                 (("ab",), "c", "a"), (("ab",), "c", "d"), (TWO_PARTS, "a", "d"), (TWO_PARTS, "f", "b"),
                                 (TWO_PARTS, "g", "h"), (ALL_TIES, "h", "h")):
            for call, more in calls:
                self.fails(NoWay, call, web, first, last, *more)

    def test_no_way_to_the_letters_behind(self):
        for web, first, last, letter in ((("ab",), "a", "b", "b"), (("ab",), "a", "b", "c"), (LINE, "a", "h", "h"),
                                         (TWO_PARTS, "a", "b", "d"), (TWO_PARTS, "a", "b", "h")):
            self.fails(NoWay, visit_mean, web, first, last, letter)
        for web, first, one in ((("ab",), "a", "b"), (LINE, "c", "g"), (ALL_TIES, "h", "a")):
            self.fails(NoWay, meets_first, web, first, one, first)
            self.fails(NoWay, meets_first, web, first, one, one)
        self.same([visit_mean(("ab",), "a", "b", "a"), meets_first(("ab",), "a", "b", "c")], [(1, 1), (1, 1)])
