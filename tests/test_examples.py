"""The examples of the interface, as they stand there."""

from jumpcuts.befores import (
    befores, befores_to, common, count_befores, count_common, longest_common, meets, shortest_before,
)
from jumpcuts.chances import (
    chances_behind, last_chances, mean_cuts, mean_last_length, mean_length, visit_chance,
)
from jumpcuts.cuts import cut, cuts, films_on_the_way, kept_places, next_films, play
from jumpcuts.errors import BadCuts, BadFilm
from jumpcuts.films import first_again, is_last, kinds, next_like, places
from jumpcuts.limits import cheapest, comes_within, evenest, kept_ends, longest_block, partings_by_cuts
from jumpcuts.mends import (
    fewest_changed, fewest_left_out, fewest_mends, fewest_put_in, one_letter_less, one_letter_more,
)
from jumpcuts.numbers import block_most, cut_numbers, fewest_cuts, most_cuts, most_in_all, shows_cuts, some_cuts
from jumpcuts.order import (
    between, count_all_rows, count_rows, covers, game_lengths, nim, order_height, row_numbers, sign_sum,
    winning_films, wins,
)
from jumpcuts.outcomes import (
    always, count_of_length, count_outcomes, count_with, last_outcomes, lengths, outcome_at, outcomes, rank_of,
    shortest, shortest_length,
)
from jumpcuts.partings import (
    blocks, comes, count_partings, ends, is_parting, parting_at, rank_of_parting, stuck,
)
from jumpcuts.sets import (
    agreement, by_letters, count_just, letter_range, longest_without, next_outcome, shortest_without,
)
from jumpcuts.several import (
    all_common, count_all_common, count_befores_of_all, futures, shortest_all_common,
)
from jumpcuts.tight import fewest_tight, is_tight_row, tight_cuts, tight_next, tight_numbers, tight_row
from jumpcuts.worths import (
    count_beginning, count_ending, count_holding, count_letters, count_unlike, greatest_worth, least_worth, worth,
)

from tests.plain import PlainCase


class Examples(PlainCase):

    def test_films(self):
        self.same([kinds("abca"), is_last("abc"), places("abca", "a"), next_like("abca", 0), first_again("abcb")],
                  ["abc", True, (0, 3), 3, (1, 3)])
        self.fails(BadFilm, kinds, "abi", place=2)

    def test_cuts(self):
        rows = ((0, 1), (0, 2))
        self.same([cuts("abcab"), cut("abcab", 0, 3), next_films("aabab"), play("aabab", rows),
                   kept_places("aabab", rows), films_on_the_way("aabab", rows)],
                  [((0, 3), (1, 4)), "ab", ["aab", "ab", "abab"], "ab", (0, 4), ("aabab", "abab", "ab")])
        self.fails(BadCuts, play, "abab", ((0, 1),), index=0)

    def test_partings(self):
        self.same([comes("abcab", "ab"), ends("abab", "ab"), stuck("aba", "abb"), is_parting("abab", "ab", (0, 3)),
                   blocks("abab", "ab", (0, 3)), count_partings("abab", "ab"), parting_at("abab", "ab", 1),
                   rank_of_parting("abab", "ab", (2, 3))],
                  [True, ((0, 2), (1, 3)), 2, True, ("a", "bab"), 2, (2, 3), 1])

    def test_numbers(self):
        self.same([fewest_cuts("abab", "ab"), some_cuts("ab", "ab"), shows_cuts("abab", "ab", ((0, 2),)),
                   most_cuts("aabab", "ab"), most_in_all("aaa"), block_most("abab"), cut_numbers("abaab", "ab")],
                  [1, (), True, 2, 2, None, (1, 2)])

    def test_limits(self):
        self.same([partings_by_cuts("aaa", "aa"), comes_within("aaa", "a", 2), evenest("aaaa", "aa"),
                   longest_block("aaaa", "aa"), kept_ends("abab", "ab"), cheapest("aaa", "a", (1, 5))],
                  [(0, 2), False, 2, 3, (3,), 2])

    def test_tight(self):
        self.same([tight_cuts("aaa"), tight_next("abab"), is_tight_row("aaa", ((0, 2),)),
                   tight_row("aaa", ((0, 1), (0, 1))), fewest_tight("aaa", "a"), tight_numbers("aaa", "a")],
                  [((0, 1), (1, 2)), ["ab"], False, "a", 2, (2,)])

    def test_outcomes(self):
        film = "aabab"
        self.same([outcomes(film), count_outcomes(film), outcome_at(film, 2), rank_of(film, "abab"), lengths(film),
                   count_of_length(film, 3), count_with(film, "a"), shortest_length(film), shortest(film),
                   last_outcomes("abcacb"), always("abcab")],
                  [["aab", "aabab", "ab", "abab"], 4, "ab", 3, (0, 1, 1, 1, 1), 1, 0, 2, "ab", ["ab", "acb"], "ab"])

    def test_worths(self):
        film, weights = "aabab", (1, -2, 0, 0, 0, 0, 0, 0)
        self.same([worth(film, weights), greatest_worth(film, weights), least_worth(film, weights),
                   count_beginning(film, "aa"), count_ending(film, "bab"), count_holding(film, "aa"),
                   count_unlike(film), count_letters(film, "b", 1)],
                  [-1, (0, "aab"), (-2, "abab"), 2, 2, 2, 2, 2])

    def test_sets(self):
        self.same([by_letters("abcab"), count_just("abcab", "ab"), shortest_without("abcab", "c"),
                   longest_without("aabab", ""), letter_range("aabab", "a"), agreement("abac", "bc"),
                   next_outcome("aabab", "ab")],
                  [(("ab", 1), ("abc", 1)), 1, "ab", "aabab", (1, 3), (2, "abac"), "abab"])

    def test_befores(self):
        self.same([count_befores("ab", 3, 2), befores_to("a", 3, 2), befores("ab", 3, 2), shortest_before("ab", "aab"),
                   count_common("abab", "aab"), common("abab", "aab"), meets("ab", "ba"),
                   longest_common("aab", "aaab")],
                  [2, (1, 1, 2), ["aab", "abb"], "aab", 1, ["ab"], False, "aab"])

    def test_mends(self):
        self.same([fewest_put_in("ab", "aba"), fewest_left_out("abc", "ab"), fewest_changed("ab", "aa"),
                   fewest_mends("ab", "ba"), one_letter_more("ab", "aba"), one_letter_less("abb", "ab")],
                  [1, 1, 1, 2, ((2, "a"),), (1, 2)])

    def test_several(self):
        self.same([count_all_common(("abab", "aab")), all_common(("aab", "aaab")),
                   shortest_all_common(("aab", "aaab")), count_befores_of_all(("ab", "aab"), 3, 2),
                   futures("aba")],
                  [1, ["aab", "ab"], "ab", 1, ((0,), (1,), (2,))])

    def test_order(self):
        self.same([row_numbers("aaa", "a"), count_rows("aaa", "a"), count_all_rows("aaa", 1), order_height("aaa"),
                   covers("aaa"), between("aaa", "a"), sign_sum("aaa", "aa"), nim("aaa"), wins("aaa"),
                   winning_films("aaa"), game_lengths("aaa")],
                  [((1, 1), (2, 2)), 3, 3, 2, ["aa"], ["a", "aa", "aaa"], -1, 2, True, ["a"], (1, 2)])

    def test_chances(self):
        self.same([visit_chance("aaa", "aa"), mean_cuts("aaa"), mean_last_length("abcacb"), last_chances("abcacb"),
                   chances_behind("aaa", 1), mean_length("aaa", 1)],
                  [(2, 3), (5, 3), (7, 3), (("ab", (2, 3)), ("acb", (1, 3))), (("a", (1, 3)), ("aa", (2, 3))), (5, 3)])
