"""Answers worked out in the plainest way from the document's words, for the tests to compare with."""

import random
import unittest
from functools import lru_cache
from itertools import combinations, product

NO_FILMS = (
    (None, None), (True, None), (False, None), (5, None), (0, None), ((), None), (("a",), None), ([], None),
    (["a"], None), ({}, None), ({"a": 1}, None), ("", None), ("a" * 201, None), ("i" * 201, None),
    ("i", 0), ("iab", 0), ("aib", 1), ("abi", 2), ("Aab", 0), ("aBa", 1), ("abH", 2), ("ab ", 2), ("a1", 1),
    ("\u00e4ab", 0), ("ab\u0430", 2), ("a\U0001f600b", 1), ("a" * 199 + "z", 199), ("a" * 100 + "zz", 100),
    ("a\nb", 1), ("-", 0),
)
NO_INTEGERS = (None, True, False, "0", "", "a", (), (0,), [], [0], {}, {0: 0})
LONG_FILMS = (
    "a" * 200, "ab" * 100, "aab" * 66 + "ab", "a" * 199 + "b", "abcdefgh" * 25, "aabbccddeeffgghh" * 12 + "abcdefgh",
    "abcdefghgfedcb" * 14 + "abcd",
)


def films_of(letters, least, most):
    """All films of some letters and of least to most letters."""
    return ["".join(word) for size in range(least, most + 1) for word in product(letters, repeat=size)]


def some_films(letters, sizes, many, seed):
    """Many films of some letters, always the same ones for a seed."""
    draw = random.Random(seed)
    return ["".join(draw.choice(letters) for _ in range(draw.choice(sizes))) for _ in range(many)]


def plain_cuts(film):
    return [(i, j) for i in range(len(film)) for j in range(len(film)) if i < j and film[i] == film[j]]


def plain_tight_cuts(film):
    return [(i, j) for i, j in plain_cuts(film) if film[i] not in film[i + 1:j]]


def plain_cut(film, pair):
    first, second = pair
    return "".join(letter for place, letter in enumerate(film) if not first < place <= second)


def plain_rows(film, cuts_of=plain_cuts):
    """All rows of cuts of a film, each with the film behind it."""
    found = [((), film)]
    for pair in cuts_of(film):
        for row, end in plain_rows(plain_cut(film, pair), cuts_of):
            found.append(((pair,) + row, end))
    return found


@lru_cache(maxsize=None)
def numbers_by_goal(film, tight=False):
    """For each film that comes of a film, the set of the numbers of cuts of all rows to it."""
    found = {film: {0}}
    for pair in plain_tight_cuts(film) if tight else plain_cuts(film):
        for goal, numbers in numbers_by_goal(plain_cut(film, pair), tight).items():
            found.setdefault(goal, set()).update(number + 1 for number in numbers)
    return found


def plain_blocks(film, parting):
    starts = [0] + [end + 1 for end in parting]
    return tuple(film[start:end + 1] for start, end in zip(starts, parting))


@lru_cache(maxsize=None)
def partings_by_goal(film):
    """For each goal the list of all partings of a film for it, as Python orders tuples."""
    found = {}
    last = len(film) - 1
    for many in range(len(film)):
        for inner in combinations(range(last), many):
            parting = inner + (last,)
            blocks = plain_blocks(film, parting)
            if all(block[0] == block[-1] for block in blocks):
                found.setdefault("".join(block[0] for block in blocks), []).append(parting)
    return {goal: sorted(partings) for goal, partings in found.items()}


def plain_partings(film, goal):
    return partings_by_goal(film).get(goal, [])


def longer_blocks(film, parting):
    return sum(1 for block in plain_blocks(film, parting) if len(block) > 1)


def near_goals(film, letters):
    """Goals that come of a film, and others one letter off, and the film itself with letters more."""
    found = {}
    for goal in partings_by_goal(film):
        found[goal] = True
        for place in range(len(goal)):
            found[goal[:place] + goal[place + 1:]] = True
            for letter in letters:
                found[goal[:place] + letter + goal[place + 1:]] = True
                found[goal[:place] + letter + goal[place:]] = True
        for letter in letters:
            found[goal + letter] = True
    found.pop("", None)
    return sorted(found)


def pairs_of_two():
    """All films of two letters up to a size, each with all goals of these letters up to one letter more."""
    for film in films_of("ab", 1, 6):
        for goal in films_of("ab", 1, len(film) + 1):
            yield film, goal


def pairs_of_more():
    """Many films of three and more letters with goals that come, that nearly come, and that do not."""
    films = some_films("abc", (3, 4, 5, 6, 7), 60, 1) + some_films("abcd", (5, 6, 7, 8), 20, 2)
    films += some_films("ah", (8, 9), 4, 3) + some_films("abcdefgh", (6, 7, 8, 9), 15, 4) + ["abcabcab", "aabbccaab"]
    draw = random.Random(5)
    for film in films:
        goals = near_goals(film, "".join(sorted(set(film)))[:4])
        for goal in goals if len(goals) <= 40 else draw.sample(goals, 40):
            yield film, goal


def pairs():
    return list(pairs_of_two()) + list(pairs_of_more())


class PlainCase(unittest.TestCase):
    """A test case that compares values with their kinds: True is not 1, a list is no tuple."""

    def same(self, got, wanted, *about):
        self.assertEqual(repr(got), repr(wanted), about)

    def fails(self, error, call, *values, **fields):
        """The call raises just this error, with just these fields."""
        kept = repr(values)
        with self.assertRaises(error) as caught:
            call(*values)
        self.assertIs(type(caught.exception), error, values)
        self.same(vars(caught.exception), fields, values)
        self.assertEqual(repr(values), kept)

    def fails_for_no_film(self, error, call, ahead=(), behind=()):
        """The call raises an error for each value that is no film, with the right place."""
        for value, place in NO_FILMS:
            self.fails(error, call, *ahead, value, *behind, place=place)

    def gives_new_list(self, call, *values):
        first = call(*values)
        self.assertIs(type(first), list)
        wanted = list(first)
        first.append("more")
        first.reverse()
        self.same(call(*values), wanted)
