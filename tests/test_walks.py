"""Points 27 and 28: webs and walks, and loops cut out."""

import random
from itertools import combinations, product

from jumpcuts.errors import BadFilm, BadLetter, BadNumber, BadWeb, NoWalk, TooLong
from jumpcuts.walks import (
    back_cut, count_loop_cut, count_walks, is_walk, loop_cut, loops, paths, walks_to, web_of,
)

from tests.plain import (
    ALL_TIES, LONG_FILMS, NO_INTEGERS, NO_LETTER, NO_WEBS, PlainCase, blocks_read, films_of, plain_cut, plain_cuts,
    plain_goals, some_films, some_webs,
)

ALL = "abcdefgh"


def plain_is_walk(web, film):
    return all(film[at - 1] + film[at] in web or film[at] + film[at - 1] in web for at in range(1, len(film)))


def walks_of(web, size):
    """All walks of so many letters, letter by letter."""
    found = list(ALL)
    for _ in range(size - 1):
        found = [word + letter for word in found for letter in ALL if plain_is_walk(web, word[-1] + letter)]
    return found


def plain_loops(film):
    """What is left of a film, and the loops cut out of it: each time that of the first letter that comes again."""
    gone = []
    while len(set(film)) < len(film):
        again = min(second for _, second in plain_cuts(film))
        first = film.index(film[again])
        gone.append(film[first:again + 1])
        film = plain_cut(film, (first, again))
    return film, tuple(gone)


def small_webs():
    """All webs of the letters a, b, c and of a, b, c, d, and many of more."""
    webs = [web for letters in ("abc", "abcd") for many in range(7)
            for web in combinations([one + other for one, other in combinations(letters, 2)], many)]
    return sorted(set(webs)) + some_webs(12, 361)


def walks_by_blocks(web, goal, size):
    """How many walks of so many letters come to a goal, by the blocks of the goal that can have come to an end."""
    table = {("", (frozenset(), frozenset([0]))): 1}
    for _ in range(size):
        behind = {}
        for (last, state), many in table.items():
            for letter in ALL:
                if plain_is_walk(web, last + letter):
                    then = (letter, blocks_read(goal, state, letter))
                    if then[1][0]:
                        behind[then] = behind.get(then, 0) + many
        table = behind
    return sum(many for (_, (_, ended)), many in table.items() if len(goal) in ended)


class Webs(PlainCase):

    def test_is_walk(self):
        films = films_of("abc", 1, 4) + some_films("abcd", (4, 5), 20, 362) + some_films(ALL, (2, 3, 5), 40, 363)
        for web in small_webs():
            for film in films[::3] + walks_of(web, 2) + walks_of(web, 4)[::9]:
                self.same(is_walk(web, film), plain_is_walk(web, film), web, film)
        self.same([is_walk((), "a"), is_walk((), "h"), is_walk((), "ab"), is_walk(ALL_TIES, "aa")],
                  [True, True, False, False])

    def test_web_of(self):
        films = films_of("ab", 1, 5) + films_of("abc", 1, 5) + some_films("abcd", (5, 6, 8), 60, 364)
        for film in films + some_films(ALL, (5, 9, 12), 60, 365) + ["hgfedcba", "ha", "ah", "h"]:
            pairs = [film[at - 1:at + 1] for at in range(1, len(film))]
            wanted = tuple(sorted({"".join(sorted(pair)) for pair in pairs}))
            if any(pair[0] == pair[1] for pair in pairs):
                wanted = None
            self.same(web_of(film), wanted, film)
            if wanted is not None:
                self.same(is_walk(wanted, film), True)
                for at in range(len(wanted)):
                    self.same(is_walk(wanted[:at] + wanted[at + 1:], film), False)

    def test_long_films(self):
        for film in LONG_FILMS + tuple(some_films(ALL, (200,), 2, 366)):
            self.same(is_walk(ALL_TIES, film), plain_is_walk(ALL_TIES, film))
            self.same(is_walk((), film), False)
            self.same(web_of(film) is None, not plain_is_walk(ALL_TIES, film))
        self.same([web_of("ab" * 100), is_walk(("ab",), "ab" * 100), is_walk(("ab",), "ab" * 99 + "ac")],
                  [("ab",), True, False])
        self.same(web_of("abcdefgh" * 25), ("ab", "ah", "bc", "cd", "de", "ef", "fg", "gh"))
        self.same([web_of("a" * 200), is_walk(ALL_TIES, "ab" * 99 + "aa"), is_walk(ALL_TIES, "ab" * 99 + "ac")],
                  [None, False, True])


class Walks(PlainCase):

    def test_count_walks(self):
        for web in small_webs():
            letters = "".join(sorted(set("".join(web)))) + "h"
            for size in (1, 2, 3, 4, 5):
                found = walks_of(web, size) if size < 5 or len(web) < 5 else None
                for first, last in product(letters[:5], letters[:5]):
                    if found is not None:
                        wanted = sum(1 for word in found if word[0] == first and word[-1] == last)
                        self.same(count_walks(web, first, last, size), wanted, web, first, last, size)

    def test_large_numbers(self):
        # In the web of all ties the walks that come back are those that do not, and more or less one.
        for size in (1, 2, 3, 7, 199, 200):
            steps = size - 1
            self.same(count_walks(ALL_TIES, "c", "f", size), (7 ** steps - (-1) ** steps) // 8)
            self.same(count_walks(ALL_TIES, "h", "h", size), (7 ** steps + 7 * (-1) ** steps) // 8)
        self.same([count_walks(("ab",), "a", "b", 200), count_walks(("ab",), "a", "a", 200)], [1, 0])
        self.same([count_walks((), "a", "a", 1), count_walks((), "a", "a", 2), count_walks((), "a", "b", 200)],
                  [1, 0, 0])
        star = ("ab", "ac", "ad", "ae", "af", "ag", "ah")
        self.same([count_walks(star, "b", "h", 199), count_walks(star, "a", "a", 199)], [7 ** 98, 7 ** 99])

    def test_paths(self):
        for web in small_webs():
            letters = "".join(sorted(set("".join(web))))[:4] + "h"
            for first, last in product(letters, letters):
                walks = [first]
                wanted = []
                while walks:
                    wanted += [word for word in walks if word[-1] == last]
                    walks = [word + letter for word in walks for letter in ALL
                             if letter not in word and plain_is_walk(web, word[-1] + letter)]
                self.same(paths(web, first, last), sorted(wanted), web, first, last)
        self.same([paths((), "a", "a"), paths((), "a", "b"), paths(ALL_TIES, "d", "d")], [["a"], [], ["d"]])
        found = paths(ALL_TIES, "a", "h")
        self.same([len(found), found[0], found[-1]], [1957, "abcdefgh", "ah"])
        self.same(found, sorted(found))
        self.gives_new_list(paths, ("ab", "bc"), "a", "c")
        self.gives_new_list(paths, (), "a", "c")

    def test_walks_to(self):
        draw = random.Random(367)
        webs = small_webs()
        for web in webs[::3] + webs[-8:]:
            for size in (1, 2, 3, 4, 5, 6):
                found = walks_of(web, size)
                if len(found) <= 1500:
                    goals = walks_of(web, draw.randint(1, 4))
                    for goal in draw.sample(goals, min(5, len(goals))) + ["a", "h"]:
                        wanted = sum(1 for word in found if goal in plain_goals(word))
                        self.same(walks_to(web, goal, size), wanted, web, goal, size)

    def test_walks_to_goals_of_12_letters(self):
        webs = [ALL_TIES, ("ab",), ("ab", "ac", "bc"), ("ab", "bc", "cd", "de", "ef", "fg", "gh")] + some_webs(3, 368)
        draw = random.Random(369)
        for web in webs:
            for many, size in ((12, 14), (12, 200), (7, 60), (2, 20), (12, 12), (12, 11)):
                goal = draw.choice(web[0] if web else ALL)
                while len(goal) < many:
                    goal += draw.choice([letter for letter in ALL if plain_is_walk(web, goal[-1] + letter)])
                if size < 200 or web in (ALL_TIES, webs[2]):
                    self.same(walks_to(web, goal, size), walks_by_blocks(web, goal, size), web, goal, size)
        self.assertGreater(walks_to(ALL_TIES, "abcdefghabcd", 200), 2 ** 500)
        self.same([walks_to((), "a", 1), walks_to((), "a", 2), walks_to((), "a", 200)], [1, 0, 0])
        self.same([walks_to(("ab",), "a", 199), walks_to(("ab",), "a", 200), walks_to(("ab",), "ba", 200)], [1, 0, 1])
        # To one letter come all that begin and end with it.
        self.same(walks_to(ALL_TIES, "e", 200), count_walks(ALL_TIES, "e", "e", 200))


class Loops(PlainCase):

    def check(self, film):
        left, gone = plain_loops(film)
        self.same([loop_cut(film), loops(film)], [left, gone], film)
        self.same(back_cut(film), plain_loops(film[::-1])[0][::-1], film)

    def test_films(self):
        for film in films_of("ab", 1, 8) + films_of("abc", 1, 6) + some_films("abcd", (6, 8, 10), 100, 370):
            self.check(film)
        for film in some_films(ALL, (8, 12, 16, 30), 100, 371):
            self.check(film)

    def test_long_films(self):
        for film in LONG_FILMS + tuple(some_films(ALL, (200,), 5, 372)) + tuple(some_films("abc", (200,), 3, 373)):
            self.check(film)
        self.same([loop_cut("a" * 200), back_cut("a" * 200), loops("a" * 200)], ["a", "a", ("aa",) * 199])
        self.same([loop_cut("ab" * 100), back_cut("ab" * 100), loops("ab" * 100)], ["ab", "ab", ("aba",) * 99])
        self.same(loops("abcdefgh" * 25), ("abcdefgha",) * 24)

    def test_forward_and_backward(self):
        self.same([loop_cut("abcbdcae"), back_cut("abcbdcae")], ["ae", "ae"])
        self.same([loop_cut("abcdbec"), back_cut("abcdbec")], ["abec", "abc"])
        self.same([loops("abcdbec"), loops("a"), loops("abc"), loops("abab")], [("bcdb",), (), (), ("aba",)])


class CountLoopCut(PlainCase):

    def test_against_all_walks(self):
        for web in small_webs():
            for size in (1, 2, 3, 4, 5, 6, 7):
                found = walks_of(web, size)
                if len(found) > 3000:
                    break
                left = [plain_loops(word)[0] for word in found]
                letters = "".join(sorted(set("".join(web))))[:3] + "h"
                for first, last in product(letters, letters):
                    for path in paths(web, first, last):
                        self.same(count_loop_cut(web, path, size), left.count(path), web, path, size)

    def test_paths_with_a_letter_twice(self):
        web = ("ab", "ac", "bc")
        for path in ("aba", "abca", "abab", "ab" * 100, "abc" * 66):
            for size in (1, 3, 4, 10, 200):
                self.same(count_loop_cut(web, path, size), 0)

    def test_all_walks_have_a_path(self):
        webs = [ALL_TIES, ("ab", "ac", "ad", "bc", "cd", "de"), ("ab", "bc", "cd", "ad", "ae", "bf")]
        for web, size in ((ALL_TIES, 12), (tuple(sorted(webs[1])), 200), (tuple(sorted(webs[2])), 200)):
            for first, last in (("a", "b"), ("d", "c"), ("c", "c"), ("b", "e")):
                total = sum(count_loop_cut(web, path, size) for path in paths(web, first, last))
                self.same(total, count_walks(web, first, last, size), web, first, last)

    def test_web_of_all_ties_at_size_200(self):
        # All paths of as many letters between the same two have as many walks there.
        for first, last in (("a", "b"), ("g", "c")):
            by_size = {}
            for path in paths(ALL_TIES, first, last):
                by_size.setdefault(len(path), []).append(path)
            total = 0
            for found in by_size.values():
                many = count_loop_cut(ALL_TIES, found[0], 200)
                self.same(count_loop_cut(ALL_TIES, found[-1], 200), many)
                total += many * len(found)
            self.same(total, count_walks(ALL_TIES, first, last, 200))
        self.same(count_loop_cut(ALL_TIES, "d", 200), count_walks(ALL_TIES, "d", "d", 200))

    def test_small(self):
        self.same([count_loop_cut((), "a", 1), count_loop_cut((), "h", 2), count_loop_cut(("ab",), "a", 199)],
                  [1, 0, 1])
        self.same([count_loop_cut(("ab",), "ab", 1), count_loop_cut(("ab",), "ab", 2), count_loop_cut(("ab",), "ba", 3),
                   count_loop_cut(("ab",), "ba", 200)], [0, 1, 0, 1])


class WrongValues(PlainCase):

    def test_webs(self):
        calls = ((is_walk, ("a",)), (is_walk, ("xa",)), (count_walks, ("a", "a", 1)), (count_walks, ("i", None, 0)),
                 (paths, ("a", "a")), (paths, (None, "i")), (walks_to, ("a", 1)), (walks_to, ("aa", 0)),
                 (walks_to, ("a" * 13, 1)), (count_loop_cut, ("a", 1)), (count_loop_cut, ("xa", None)))
        for value, index in NO_WEBS:
            for call, more in calls:
                self.fails(BadWeb, call, value, *more, index=index)

    def test_films(self):
        for web in ((), ("ab",), ALL_TIES):
            self.fails_for_no_film(BadFilm, is_walk, ahead=(web,))
            for size in (1, 0, 201, None):
                self.fails_for_no_film(BadFilm, walks_to, ahead=(web,), behind=(size,))
                self.fails_for_no_film(BadFilm, count_loop_cut, ahead=(web,), behind=(size,))
        for call in (web_of, loop_cut, back_cut, loops):
            self.fails_for_no_film(BadFilm, call)

    def test_letters(self):
        for value in NO_LETTER:
            for web in ((), ("ab",), ALL_TIES):
                for other in ("a", "h", "i", None):
                    self.fails(BadLetter, paths, web, value, other)
                    for size in (1, 0, None):
                        self.fails(BadLetter, count_walks, web, value, other, size)
                self.fails(BadLetter, paths, web, "a", value)
                for size in (1, 201, None):
                    self.fails(BadLetter, count_walks, web, "a", value, size)

    def test_no_walks(self):
        for web, film in (((), "ab"), (("ab",), "aa"), (("ab",), "abc"), (ALL_TIES, "abb"), (("ab", "cd"), "abcd"),
                          (("ab",), "ac" * 100), ((), "a" * 13)):
            for size in (1, 200, 0, 201, True, None):
                self.fails(NoWalk, walks_to, web, film, size)
                self.fails(NoWalk, count_loop_cut, web, film, size)

    def test_sizes(self):
        for value in NO_INTEGERS + (0, -1, 201, 10 ** 30):
            self.fails(BadNumber, count_walks, ("ab",), "a", "b", value)
            for film in ("ab", "a", "h", "ab" * 100):
                self.fails(BadNumber, walks_to, ("ab",), film, value)
                self.fails(BadNumber, count_loop_cut, ("ab",), film, value)

    def test_too_long(self):
        for film in ("ab" * 6 + "a", "ab" * 100, "abcdefgh" * 2):
            for size in (1, 13, 200):
                self.fails(TooLong, walks_to, ALL_TIES, film, size, most=12)
                self.assertIs(type(count_loop_cut(ALL_TIES, film, size)), int)
        self.same([walks_to(ALL_TIES, "ab" * 6, 12), walks_to(ALL_TIES, "ab" * 6, 11)], [1, 0])
