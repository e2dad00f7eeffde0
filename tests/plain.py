"""Answers worked out in the plainest way from the document's words, for the tests to compare with."""

import random
import unittest
from functools import lru_cache
from itertools import combinations, product

NO_FILMS = (
    (None, None), (True, None), (False, None), (5, None), (0, None), ((), None), (("a",), None), ([], None),
    (["a"], None), ({}, None), ({"a": 1}, None), ("", None), ("a" * 201, None), ("i" * 201, None),
    ("i", 0), ("iab", 0), ("aib", 1), ("abi", 2), ("Aab", 0), ("aBa", 1), ("abH", 2), ("ab ", 2), ("a1", 1),
    ("\u00e4ab", 0), ("ab\u0430", 2), ("a\U0001f600b", 1), ("a" * 199 + "z", 199), ("a" * 100 + "zz", 100),
    ("a\nb", 1), ("-", 0),
)
NO_INTEGERS = (None, True, False, "0", "", "a", (), (0,), [], [0], {}, {0: 0})
NO_LETTER = (
    None, True, False, 0, 1, (), ("a",), [], ["a"], {}, {"a": 1}, "", "i", "A", "ab", "aa", " ", "a ", "\u00e4",
)
NO_LETTERS = (
    None, True, False, 0, 1, (), ("a",), ("a", "b"), [], ["a"], {}, {"a": 1}, "i", "A", " ", "ba", "aa", "aab", "abb",
    "acb", "abi", "ia", "aB", "a b", "a,b", "ab\n", "hgfedcba", "abcdefghi", "abcdefgha", "abcdefghh", "\u00e4",
    "a\u0430",
)
NO_TUPLES_OF_FILMS = (
    None, True, False, 0, 1, "", "a", "abab", (), [], ["a"], ["ab", "ab"], {}, {"a": "a"}, ("a",) * 5, ("a",) * 200,
    (None,) * 5, ("i",) * 6,
)
ALL_TIES = tuple(one + other for one, other in combinations("abcdefgh", 2))
# Values that are no webs, with the index of BadWeb.
NO_WEBS = (
    (None, None), (True, None), (False, None), (0, None), (5, None), ("", None), ("ab", None), ([], None),
    (["ab"], None), (["ab", "bc"], None), ({}, None), ({"ab": 1}, None), ("a", None),
    (("ba",), 0), (("aa",), 0), (("ai",), 0), (("ia",), 0), (("hi",), 0), (("abc",), 0), (("a",), 0), (("",), 0),
    ((None,), 0), ((True,), 0), ((1,), 0), (("Ab",), 0), (("aB",), 0), (("a ",), 0), (("a\u00e4",), 0),
    ((("a", "b"),), 0), ((["a", "b"],), 0), (({"a": "b"},), 0), (((),), 0),
    (("ab", "ab"), 1), (("bc", "ab"), 1), (("ac", "ab"), 1), (("ab", "bc", "bc"), 2), (("ab", "ac", "bd", "bc"), 3),
    (("ab", "cb"), 1), (("ab", None), 1), (("ab", 1), 1), (("ab", "cc"), 1), (("ab", "bcd"), 1), (("ab", ""), 1),
    (("ab", "ci"), 1), (("ab", "bc", True, None), 2), (("ab", "bc", "ac", None), 2), (ALL_TIES[::-1], 1),
    (ALL_TIES + ("gh",), 28), (ALL_TIES + (None,), 28), (("ab",) * 30, 1),
)
# Some films of which just this many outcomes come.
FILM_OF_5000 = "aaaabaaabbaaabbcdcbcbbab"
FILM_OF_5001 = "ccbbbccacbcaabacccbaabac"
LONG_FILMS = (
    "a" * 200, "ab" * 100, "aab" * 66 + "ab", "a" * 199 + "b", "abcdefgh" * 25, "aabbccddeeffgghh" * 12 + "abcdefgh",
    "abcdefghgfedcb" * 14 + "abcd",
)


def films_of(letters, least, most):
    """All films of some letters and of least to most letters."""
    return ["".join(word) for size in range(least, most + 1) for word in product(letters, repeat=size)]


def some_films(letters, sizes, many, seed):
    """Many films of some letters, always the same ones for a seed."""
    draw = random.Random(seed)
    return ["".join(draw.choice(letters) for _ in range(draw.choice(sizes))) for _ in range(many)]


def some_webs(many, seed):
    """Webs of some ties each, of letters up to h, always the same ones for a seed."""
    draw = random.Random(seed)
    return [tuple(sorted(draw.sample(ALL_TIES, draw.choice((3, 5, 7, 9, 12))))) for _ in range(many)]


def plain_cuts(film):
    return [(i, j) for i in range(len(film)) for j in range(len(film)) if i < j and film[i] == film[j]]


def plain_tight_cuts(film):
    return [(i, j) for i, j in plain_cuts(film) if film[i] not in film[i + 1:j]]


def plain_cut(film, pair):
    first, second = pair
    return "".join(letter for place, letter in enumerate(film) if not first < place <= second)


def plain_rows(film, cuts_of=plain_cuts):
    """All rows of cuts of a film, each with the film behind it."""
    found = [((), film)]
    for pair in cuts_of(film):
        for row, end in plain_rows(plain_cut(film, pair), cuts_of):
            found.append(((pair,) + row, end))
    return found


@lru_cache(maxsize=None)
def numbers_by_goal(film, tight=False):
    """For each film that comes of a film, the set of the numbers of cuts of all rows to it."""
    found = {film: {0}}
    for pair in plain_tight_cuts(film) if tight else plain_cuts(film):
        for goal, numbers in numbers_by_goal(plain_cut(film, pair), tight).items():
            found.setdefault(goal, set()).update(number + 1 for number in numbers)
    return found


def plain_outcomes(film):
    """All films that come of a film by rows of cuts, by the alphabet."""
    return sorted(numbers_by_goal(film))


def outcome_films():
    """All films of two letters up to a size, and many of three and more letters."""
    films = films_of("ab", 1, 8) + some_films("ab", (9, 10, 11), 25, 101)
    films += some_films("abc", (3, 4, 5, 6, 7, 8), 120, 102)
    films += some_films("abcd", (5, 6, 7, 8, 9, 10), 60, 103) + some_films("bdfh", (8, 9, 10), 15, 104)
    return films + some_films("abcdefgh", (6, 8, 10, 11), 30, 105) + ["h", "abcdefgh", "hgfedcbah", "aabbccddaa"]


@lru_cache(maxsize=None)
def plain_steps(film):
    """By sets of how many letters are had where a block can end, behind some first letters, those by a next one."""
    found = {}
    waiting = [frozenset([0])]
    while waiting:
        stops = waiting.pop()
        if stops in found:
            continue
        found[stops] = {}
        for letter in sorted(set(film)):
            starts = [stop for stop in stops if film[stop:stop + 1] == letter]
            if starts:
                further = frozenset(at + 1 for at in range(min(starts), len(film)) if film[at] == letter)
                found[stops][letter] = further
                waiting.append(further)
    return {stops: found[stops] for stops in sorted(found, key=min)}


def plain_states(film, first, move):
    """By states, how many outcomes end with them, for films of any size: move(state, letter) is that behind a letter.

    The letters of an outcome are gone through one by one, with all places at which the block of
    the last one can end.
    """
    steps = plain_steps(film)
    table = {stops: {} for stops in steps}
    table[frozenset([0])][first] = 1
    found = {}
    for stops, further in steps.items():
        for state, many in table[stops].items():
            if len(film) in stops:
                found[state] = found.get(state, 0) + many
            for letter, behind in further.items():
                end = move(state, letter)
                table[behind][end] = table[behind].get(end, 0) + many
    return found


def plain_sum(film, first, move, good):
    """How many outcomes end with a state that is good, as plain_states tells them."""
    return sum(many for state, many in plain_states(film, first, move).items() if good(state))


@lru_cache(maxsize=None)
def plain_goals(film):
    """The set of all goals to which a film comes."""
    return frozenset(partings_by_goal(film))


def common_goals(films):
    """All films that come of all of some films, by the alphabet."""
    return sorted(frozenset.intersection(*[plain_goals(film) for film in films]))


def first_shortest(words):
    return min(words, key=lambda word: (len(word), word), default=None)


def blocks_read(goal, state, letter):
    """What a film's next letter makes of the blocks of a goal that can have begun and of those that can have ended.

    Both are told by the numbers of the blocks, from 1; ahead of the first letter number 0 has ended.
    """
    begun, ended = state
    begun = begun | frozenset(at + 1 for at in ended if goal[at:at + 1] == letter)
    return begun, frozenset(at for at in begun if goal[at - 1] == letter)


def befores_of_all(goals, size, letters):
    """By sizes up to one, how many films of some letters come to all of some goals."""
    found = []
    table = {tuple((frozenset(), frozenset([0])) for _ in goals): 1}
    for _ in range(size):
        behind = {}
        for states, many in table.items():
            for letter in letters:
                then = tuple(blocks_read(goal, state, letter) for goal, state in zip(goals, states))
                if all(begun for begun, _ in then):
                    behind[then] = behind.get(then, 0) + many
        table = behind
        found.append(sum(many for states, many in table.items()
                         if all(len(goal) in ended for goal, (_, ended) in zip(goals, states))))
    return found


def plain_blocks(film, parting):
    starts = [0] + [end + 1 for end in parting]
    return tuple(film[start:end + 1] for start, end in zip(starts, parting))


@lru_cache(maxsize=None)
def partings_by_goal(film):
    """For each goal the list of all partings of a film for it, as Python orders tuples."""
    found = {}
    last = len(film) - 1
    for many in range(len(film)):
        for inner in combinations(range(last), many):
            parting = inner + (last,)
            blocks = plain_blocks(film, parting)
            if all(block[0] == block[-1] for block in blocks):
                found.setdefault("".join(block[0] for block in blocks), []).append(parting)
    return {goal: sorted(partings) for goal, partings in found.items()}


def plain_partings(film, goal):
    return partings_by_goal(film).get(goal, [])


def longer_blocks(film, parting):
    return sum(1 for block in plain_blocks(film, parting) if len(block) > 1)


def near_goals(film, letters):
    """Goals that come of a film, and others one letter off, and the film itself with letters more."""
    found = {}
    for goal in partings_by_goal(film):
        found[goal] = True
        for place in range(len(goal)):
            found[goal[:place] + goal[place + 1:]] = True
            for letter in letters:
                found[goal[:place] + letter + goal[place + 1:]] = True
                found[goal[:place] + letter + goal[place:]] = True
        for letter in letters:
            found[goal + letter] = True
    found.pop("", None)
    return sorted(found)


def pairs_of_two():
    """All films of two letters up to a size, each with all goals of these letters up to one letter more."""
    for film in films_of("ab", 1, 6):
        for goal in films_of("ab", 1, len(film) + 1):
            yield film, goal


def pairs_of_more():
    """Many films of three and more letters with goals that come, that nearly come, and that do not."""
    films = some_films("abc", (3, 4, 5, 6, 7), 60, 1) + some_films("abcd", (5, 6, 7, 8), 20, 2)
    films += some_films("ah", (8, 9), 4, 3) + some_films("abcdefgh", (6, 7, 8, 9), 15, 4) + ["abcabcab", "aabbccaab"]
    draw = random.Random(5)
    for film in films:
        goals = near_goals(film, "".join(sorted(set(film)))[:4])
        for goal in goals if len(goals) <= 40 else draw.sample(goals, 40):
            yield film, goal


def pairs():
    return list(pairs_of_two()) + list(pairs_of_more())


class PlainCase(unittest.TestCase):
    """A test case that compares values with their kinds: True is not 1, a list is no tuple."""

    def same(self, got, wanted, *about):
        self.assertEqual(repr(got), repr(wanted), about)

    def fails(self, error, call, *values, **fields):
        """The call raises just this error, with just these fields."""
        kept = repr(values)
        with self.assertRaises(error) as caught:
            call(*values)
        self.assertIs(type(caught.exception), error, values)
        self.same(vars(caught.exception), fields, values)
        self.assertEqual(repr(values), kept)

    def fails_for_no_film(self, error, call, ahead=(), behind=()):
        """The call raises an error for each value that is no film, with the right place."""
        for value, place in NO_FILMS:
            self.fails(error, call, *ahead, value, *behind, place=place)

    def gives_new_list(self, call, *values):
        first = call(*values)
        self.assertIs(type(first), list)
        wanted = list(first)
        first.append("more")
        first.reverse()
        self.same(call(*values), wanted)
