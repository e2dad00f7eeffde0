"""The examples of the interface, as they stand there."""

from jumpcuts.cuts import cut, cuts, films_on_the_way, kept_places, next_films, play
from jumpcuts.errors import BadCuts, BadFilm
from jumpcuts.films import first_again, is_last, kinds, next_like, places
from jumpcuts.limits import cheapest, comes_within, evenest, kept_ends, longest_block, partings_by_cuts
from jumpcuts.numbers import block_most, cut_numbers, fewest_cuts, most_cuts, most_in_all, shows_cuts, some_cuts
from jumpcuts.partings import (
    blocks, comes, count_partings, ends, is_parting, parting_at, rank_of_parting, stuck,
)
from jumpcuts.tight import fewest_tight, is_tight_row, tight_cuts, tight_next, tight_numbers, tight_row

from tests.plain import PlainCase


class Examples(PlainCase):

    def test_films(self):
        self.same([kinds("abca"), is_last("abc"), places("abca", "a"), next_like("abca", 0), first_again("abcb")],
                  ["abc", True, (0, 3), 3, (1, 3)])
        self.fails(BadFilm, kinds, "abi", place=2)

    def test_cuts(self):
        rows = ((0, 1), (0, 2))
        self.same([cuts("abcab"), cut("abcab", 0, 3), next_films("aabab"), play("aabab", rows),
                   kept_places("aabab", rows), films_on_the_way("aabab", rows)],
                  [((0, 3), (1, 4)), "ab", ["aab", "ab", "abab"], "ab", (0, 4), ("aabab", "abab", "ab")])
        self.fails(BadCuts, play, "abab", ((0, 1),), index=0)

    def test_partings(self):
        self.same([comes("abcab", "ab"), ends("abab", "ab"), stuck("aba", "abb"), is_parting("abab", "ab", (0, 3)),
                   blocks("abab", "ab", (0, 3)), count_partings("abab", "ab"), parting_at("abab", "ab", 1),
                   rank_of_parting("abab", "ab", (2, 3))],
                  [True, ((0, 2), (1, 3)), 2, True, ("a", "bab"), 2, (2, 3), 1])

    def test_numbers(self):
        self.same([fewest_cuts("abab", "ab"), some_cuts("ab", "ab"), shows_cuts("abab", "ab", ((0, 2),)),
                   most_cuts("aabab", "ab"), most_in_all("aaa"), block_most("abab"), cut_numbers("abaab", "ab")],
                  [1, (), True, 2, 2, None, (1, 2)])

    def test_limits(self):
        self.same([partings_by_cuts("aaa", "aa"), comes_within("aaa", "a", 2), evenest("aaaa", "aa"),
                   longest_block("aaaa", "aa"), kept_ends("abab", "ab"), cheapest("aaa", "a", (1, 5))],
                  [(0, 2), False, 2, 3, (3,), 2])

    def test_tight(self):
        self.same([tight_cuts("aaa"), tight_next("abab"), is_tight_row("aaa", ((0, 2),)),
                   tight_row("aaa", ((0, 1), (0, 1))), fewest_tight("aaa", "a"), tight_numbers("aaa", "a")],
                  [((0, 1), (1, 2)), ["ab"], False, "a", 2, (2,)])
