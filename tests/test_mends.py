"""Point 17: letters put in, left out and changed."""

import random
from itertools import combinations

from jumpcuts.errors import BadFilm
from jumpcuts.mends import (
    fewest_changed, fewest_left_out, fewest_mends, fewest_put_in, one_letter_less, one_letter_more,
)
from jumpcuts.partings import comes

from tests.plain import LONG_FILMS, PlainCase, blocks_read, films_of, near_goals, plain_goals, some_films

CALLS = (fewest_put_in, fewest_left_out, fewest_changed, fewest_mends, one_letter_more, one_letter_less)


def put_in(word, letters):
    return {word[:place] + letter + word[place:] for place in range(len(word) + 1) for letter in letters}


def left_out(word):
    return {word[:place] + word[place + 1:] for place in range(len(word))}


def changed(word, letters):
    return {word[:place] + letter + word[place + 1:] for place in range(len(word)) for letter in letters}


def plain_fewest(film, goal, further):
    """How few steps, each to one of the further words, lead to a film that comes to the goal; None if none do."""
    seen = {film}
    level = {film}
    steps = 0
    while level:
        if any(word and goal in plain_goals(word) for word in level):
            return steps
        level = {then for word in level for then in further(word)} - seen
        seen |= level
        steps += 1
    return None


def plain_cheapest(film, goal, costs):
    """The least cost, for films of any size: what stands of the goal is tried for all beginnings of the film.

    A state is how many letters of the film are had, which block of the goal the last letter is
    in, and whether it can end it; costs are those of a letter put in, left out and changed, None
    for what is not allowed.
    """
    put, out, change = costs
    size = len(film)
    cost = {(0, 0, True): 0}
    levels = {0: [(0, 0, True)]}
    total = 0
    while levels:
        for had, block, at_end in levels.pop(total, []):
            if cost[had, block, at_end] < total:
                continue
            if (had, block, at_end) == (size, len(goal), True):
                return total
            further = []
            targets = [(block, None)] if block else []
            if at_end and block < len(goal):
                targets.append((block + 1, goal[block]))
            for then, needed in targets:
                for letter in "abcdefgh" if needed is None else needed:
                    state = (then, letter == goal[then - 1])
                    if had < size and (film[had] == letter or change is not None):
                        further.append(((had + 1, *state), 0 if film[had] == letter else change))
                    if put is not None:
                        further.append(((had, *state), put))
            if had < size and out is not None:
                further.append(((had + 1, block, at_end), out))
            for state, more in further:
                if total + more < cost.get(state, 10 ** 6):
                    cost[state] = total + more
                    levels.setdefault(total + more, []).append(state)
        if total not in levels:
            total += 1
            if total > 1000:
                return None
    return None


def comes_by_blocks(film, goal):
    """Whether a film, of any size, comes to a goal."""
    state = (frozenset(), frozenset([0]))
    for letter in film:
        state = blocks_read(goal, state, letter)
    return len(goal) in state[1]


def small_pairs():
    """Films with goals that come, that nearly come, and that do not."""
    pairs = [(film, goal) for film in films_of("ab", 1, 4) for goal in films_of("ab", 1, 4)]
    draw = random.Random(161)
    for film in some_films("abc", (2, 3, 4, 5), 40, 162):
        goals = near_goals(film, "abc")
        pairs += [(film, goal) for goal in draw.sample(goals, min(6, len(goals))) if len(goal) < 5]
        pairs.append((film, "".join(draw.choice("abc") for _ in range(draw.randint(1, 3)))))
    return pairs


class Fewest(PlainCase):

    def test_left_out(self):
        more = [(film, goal) for film in films_of("ab", 5, 7) for goal in films_of("ab", 1, 3)]
        for film, goal in small_pairs() + more:
            least = None
            for size in range(len(film), 0, -1):
                if any(goal in plain_goals("".join(kept)) for kept in combinations(film, size)):
                    least = len(film) - size
                    break
            self.same(fewest_left_out(film, goal), least, film, goal)

    def test_changed(self):
        for film, goal in small_pairs() + [("a", "h"), ("ah", "ha")]:
            letters = "".join(sorted(set("abc" + film + goal)))
            best = [sum(x != y for x, y in zip(film, word)) for word in films_of(letters, len(film), len(film))
                    if goal in plain_goals(word)]
            self.same(fewest_changed(film, goal), min(best, default=None), film, goal)

    def test_put_in(self):
        for film, goal in small_pairs():
            letters = "".join(sorted(set(film + goal)))
            wanted = plain_fewest(film, goal, lambda word: put_in(word, letters))
            self.same(fewest_put_in(film, goal), wanted, film, goal)

    def test_mends(self):
        for film, goal in small_pairs():
            letters = "".join(sorted(set(film + goal)))
            wanted = plain_fewest(
                film, goal, lambda word: put_in(word, letters) | left_out(word) | changed(word, letters))
            self.same(fewest_mends(film, goal), wanted, film, goal)

    def test_costs_of_more_letters(self):
        draw = random.Random(163)
        films = some_films("ab", (8, 12, 30), 8, 164) + some_films("abc", (10, 20), 8, 165)
        films += some_films("abcdefgh", (20,), 6, 166)
        for film in films:
            for goal in (film[::-1], draw.choice(films), film[2:7], film[:3] + film[4:], film + film[-3:], "hab"):
                self.check_costs(film, goal)
        self.check_costs(LONG_FILMS[2], "abba" * 30)
        self.check_costs("abcdefgh" * 25, "hgfedcba" * 20)

    def check_costs(self, film, goal):
        for call, costs in ((fewest_put_in, (1, None, None)), (fewest_left_out, (None, 1, None)),
                            (fewest_changed, (None, None, 1)), (fewest_mends, (1, 1, 1))):
            self.same(call(film, goal), plain_cheapest(film, goal, costs), call, film, goal)

    def test_long_films(self):
        for film in LONG_FILMS:
            self.same([call(film, film) for call in CALLS[:4]], [0, 0, 0, 0])
            self.same(fewest_changed(film, "a" * 200), 200 - film.count("a"))
            self.same(fewest_put_in(film[:100] + film[101:], film), 0 if comes(film[:100] + film[101:], film) else 1)
            for goal in (film, film[::-1], *LONG_FILMS[:2]):
                found = [call(film, goal) for call in CALLS[:4]]
                # Films and goals of one length come to each other only if they are the same.
                self.same(found[2], sum(x != y for x, y in zip(film, goal)))
                self.same(found[1], 0 if film == goal else None)
                self.assertLessEqual(found[3], min(found[0], found[2]))
        film = "a" * 200
        self.same([call(film, "b" * 200) for call in CALLS[:4]], [201, None, 200, 200])
        self.same([call(film, "b") for call in CALLS[:4]], [2, None, 2, 2])
        self.same([call(film, "a") for call in CALLS[:4]], [0, 0, 0, 0])
        self.same([call("ab" * 100, "b") for call in CALLS[:4]], [1, 1, 1, 1])
        self.same([call("ab" * 100, "aa") for call in CALLS[:4]], [2, 2, 1, 1])
        self.same([call("b", film) for call in CALLS[:4]], [201, None, None, 200])
        self.same([call("a", film) for call in CALLS[:4]], [199, None, None, 199])

    def test_small(self):
        self.same([call("a", "a") for call in CALLS[:4]], [0, 0, 0, 0])
        self.same([call("a", "b") for call in CALLS[:4]], [2, None, 1, 1])
        self.same([call("ab", "a") for call in CALLS[:4]], [1, 1, 1, 1])
        self.same([call("c", "ab") for call in CALLS[:4]], [3, None, None, 2])


class One(PlainCase):

    def test_one_letter(self):
        for film, goal in small_pairs() + [(film, "ab") for film in films_of("abc", 1, 5)]:
            more = tuple((place, letter) for place in range(len(film) + 1) for letter in sorted(set(goal))
                         if goal in plain_goals(film[:place] + letter + film[place:]))
            self.same(one_letter_more(film, goal), more, film, goal)
            less = tuple(place for place in range(len(film))
                         if len(film) > 1 and goal in plain_goals(film[:place] + film[place + 1:]))
            self.same(one_letter_less(film, goal), less, film, goal)

    def test_edges(self):
        self.same(one_letter_more("a", "a"), ((0, "a"), (1, "a")))
        self.same(one_letter_more("a", "b"), ())
        self.same(one_letter_more("a", "aa"), ((0, "a"), (1, "a")))
        self.same(one_letter_more("a", "ab"), ((1, "b"),))
        self.same(one_letter_more("b", "ab"), ((0, "a"),))
        self.same(one_letter_less("a", "a"), ())
        self.same(one_letter_less("a", "b"), ())
        self.same(one_letter_less("ab", "b"), (0,))
        self.same(one_letter_less("aa", "a"), (0, 1))
        self.same(one_letter_less("aa", "a" * 200), ())

    def test_long_films(self):
        film = "a" * 200
        self.same(one_letter_more(film, film), tuple((place, "a") for place in range(201)))
        self.same(one_letter_less(film, "a" * 199), tuple(range(200)))
        self.same(one_letter_less(film, film), ())
        film = "ab" * 100
        # Behind b a letter b, and behind a a letter a may stand twice.
        self.same(one_letter_less(film, film), ())
        self.same(one_letter_more(film[1:], film), ((0, "a"),))
        self.same(one_letter_more(film[:-1], film), ((199, "b"),))
        self.same(one_letter_less(film, "ab"), tuple(range(1, 199)))
        film = "abcdefgh" * 25
        self.same(one_letter_less(film, "abcdefgh"), tuple(range(1, 199)))
        self.same(one_letter_more(film, "abcdefgh"),
                  tuple(pair for pair in [(place, letter) for place in range(201) for letter in "abcdefgh"]
                        if pair[0] not in (0, 200) or pair in ((0, "a"), (200, "h"))))

    def test_some_letters_of_long_films(self):
        draw = random.Random(167)
        for film in LONG_FILMS + tuple(some_films("ab", (200,), 2, 168)):
            for goal in (film[:3] + film[5:], film[:90] + film[110:] + "a", film[:1] + film, film[:150] + film[-1]):
                more = one_letter_more(film, goal[:200])
                less = one_letter_less(film, goal[:200])
                self.same([more, less], [tuple(sorted(set(more))), tuple(sorted(set(less)))])
                for place in draw.sample(range(1, 200), 8) + [0]:
                    letter = draw.choice(goal)
                    wanted = comes_by_blocks(film[:place] + letter + film[place:], goal[:200])
                    self.same((place, letter) in more, wanted, film, goal, place)
                    wanted = comes_by_blocks(film[:place] + film[place + 1:], goal[:200])
                    self.same(place in less, wanted, film, goal, place)


class WrongValues(PlainCase):

    def test_no_films(self):
        for call in CALLS:
            self.fails_for_no_film(BadFilm, call, behind=("a",))
            self.fails_for_no_film(BadFilm, call, ahead=("a",))
            self.fails(BadFilm, call, "abi", "xa", place=2)
            self.fails(BadFilm, call, "a", "xa", place=0)
            self.fails(BadFilm, call, "a" * 201, None, place=None)
