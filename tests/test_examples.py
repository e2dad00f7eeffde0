"""The examples of the interface, as they stand there."""

from jumpcuts.befores import (
    befores, befores_to, common, count_befores, count_common, longest_common, meets, shortest_before,
)
from jumpcuts.census import (
    count_last, count_pairs, count_squeezed, cuts_census, film_at, film_rank, outcome_census, richest,
)
from jumpcuts.chances import (
    chances_behind, last_chances, mean_cuts, mean_last_length, mean_length, visit_chance,
)
from jumpcuts.cuts import cut, cuts, films_on_the_way, kept_places, next_films, play
from jumpcuts.desks import Desk
from jumpcuts.drawn import mean_path, mean_steps, meets_first, path_chance, visit_mean
from jumpcuts.errors import BadCuts, BadFilm, InvalidText, NoWay
from jumpcuts.films import first_again, is_last, kinds, next_like, places
from jumpcuts.glue import (
    alike, inner_letters, joined, joins_freely, pairs_of, plain, renamed, repeated, runs, squeezed,
)
from jumpcuts.limits import cheapest, comes_within, evenest, kept_ends, longest_block, partings_by_cuts
from jumpcuts.mends import (
    fewest_changed, fewest_left_out, fewest_mends, fewest_put_in, one_letter_less, one_letter_more,
)
from jumpcuts.middles import (
    between_lengths, count_between, first_missing, is_between, nim_counts, nim_of_all, one_cut_off, turned_wins,
    winning_cuts,
)
from jumpcuts.numbers import block_most, cut_numbers, fewest_cuts, most_cuts, most_in_all, shows_cuts, some_cuts
from jumpcuts.order import (
    between, count_all_rows, count_rows, covers, game_lengths, nim, order_height, row_numbers, sign_sum,
    winning_films, wins,
)
from jumpcuts.outcomes import (
    always, count_of_length, count_outcomes, count_with, last_outcomes, lengths, outcome_at, outcomes, rank_of,
    shortest, shortest_length,
)
from jumpcuts.partings import (
    blocks, comes, count_partings, ends, is_parting, parting_at, rank_of_parting, stuck,
)
from jumpcuts.rings import (
    is_last_ring, ring_comes, ring_fewest, ring_name, ring_next, ring_outcomes, ring_partings, ring_period,
    ring_shortest, same_ring,
)
from jumpcuts.sets import (
    agreement, by_letters, count_just, letter_range, longest_without, next_outcome, shortest_without,
)
from jumpcuts.several import (
    all_common, count_all_common, count_befores_of_all, futures, shortest_all_common,
)
from jumpcuts.texts import read, read_cuts, write, write_cuts
from jumpcuts.tight import fewest_tight, is_tight_row, tight_cuts, tight_next, tight_numbers, tight_row
from jumpcuts.walks import (
    back_cut, count_loop_cut, count_walks, is_walk, loop_cut, loops, paths, walks_to, web_of,
)
from jumpcuts.worths import (
    count_beginning, count_ending, count_holding, count_letters, count_unlike, greatest_worth, least_worth, worth,
)

from tests.plain import PlainCase


class Examples(PlainCase):

    def test_films(self):
        self.same([kinds("abca"), is_last("abc"), places("abca", "a"), next_like("abca", 0), first_again("abcb")],
                  ["abc", True, (0, 3), 3, (1, 3)])
        self.fails(BadFilm, kinds, "abi", place=2)

    def test_cuts(self):
        rows = ((0, 1), (0, 2))
        self.same([cuts("abcab"), cut("abcab", 0, 3), next_films("aabab"), play("aabab", rows),
                   kept_places("aabab", rows), films_on_the_way("aabab", rows)],
                  [((0, 3), (1, 4)), "ab", ["aab", "ab", "abab"], "ab", (0, 4), ("aabab", "abab", "ab")])
        self.fails(BadCuts, play, "abab", ((0, 1),), index=0)

    def test_partings(self):
        self.same([comes("abcab", "ab"), ends("abab", "ab"), stuck("aba", "abb"), is_parting("abab", "ab", (0, 3)),
                   blocks("abab", "ab", (0, 3)), count_partings("abab", "ab"), parting_at("abab", "ab", 1),
                   rank_of_parting("abab", "ab", (2, 3))],
                  [True, ((0, 2), (1, 3)), 2, True, ("a", "bab"), 2, (2, 3), 1])

    def test_numbers(self):
        self.same([fewest_cuts("abab", "ab"), some_cuts("ab", "ab"), shows_cuts("abab", "ab", ((0, 2),)),
                   most_cuts("aabab", "ab"), most_in_all("aaa"), block_most("abab"), cut_numbers("abaab", "ab")],
                  [1, (), True, 2, 2, None, (1, 2)])

    def test_limits(self):
        self.same([partings_by_cuts("aaa", "aa"), comes_within("aaa", "a", 2), evenest("aaaa", "aa"),
                   longest_block("aaaa", "aa"), kept_ends("abab", "ab"), cheapest("aaa", "a", (1, 5))],
                  [(0, 2), False, 2, 3, (3,), 2])

    def test_tight(self):
        self.same([tight_cuts("aaa"), tight_next("abab"), is_tight_row("aaa", ((0, 2),)),
                   tight_row("aaa", ((0, 1), (0, 1))), fewest_tight("aaa", "a"), tight_numbers("aaa", "a")],
                  [((0, 1), (1, 2)), ["ab"], False, "a", 2, (2,)])

    def test_outcomes(self):
        film = "aabab"
        self.same([outcomes(film), count_outcomes(film), outcome_at(film, 2), rank_of(film, "abab"), lengths(film),
                   count_of_length(film, 3), count_with(film, "a"), shortest_length(film), shortest(film),
                   last_outcomes("abcacb"), always("abcab")],
                  [["aab", "aabab", "ab", "abab"], 4, "ab", 3, (0, 1, 1, 1, 1), 1, 0, 2, "ab", ["ab", "acb"], "ab"])

    def test_worths(self):
        film, weights = "aabab", (1, -2, 0, 0, 0, 0, 0, 0)
        self.same([worth(film, weights), greatest_worth(film, weights), least_worth(film, weights),
                   count_beginning(film, "aa"), count_ending(film, "bab"), count_holding(film, "aa"),
                   count_unlike(film), count_letters(film, "b", 1)],
                  [-1, (0, "aab"), (-2, "abab"), 2, 2, 2, 2, 2])

    def test_sets(self):
        self.same([by_letters("abcab"), count_just("abcab", "ab"), shortest_without("abcab", "c"),
                   longest_without("aabab", ""), letter_range("aabab", "a"), agreement("abac", "bc"),
                   next_outcome("aabab", "ab")],
                  [(("ab", 1), ("abc", 1)), 1, "ab", "aabab", (1, 3), (2, "abac"), "abab"])

    def test_befores(self):
        self.same([count_befores("ab", 3, 2), befores_to("a", 3, 2), befores("ab", 3, 2), shortest_before("ab", "aab"),
                   count_common("abab", "aab"), common("abab", "aab"), meets("ab", "ba"),
                   longest_common("aab", "aaab")],
                  [2, (1, 1, 2), ["aab", "abb"], "aab", 1, ["ab"], False, "aab"])

    def test_mends(self):
        self.same([fewest_put_in("ab", "aba"), fewest_left_out("abc", "ab"), fewest_changed("ab", "aa"),
                   fewest_mends("ab", "ba"), one_letter_more("ab", "aba"), one_letter_less("abb", "ab")],
                  [1, 1, 1, 2, ((2, "a"),), (1, 2)])

    def test_several(self):
        self.same([count_all_common(("abab", "aab")), all_common(("aab", "aaab")),
                   shortest_all_common(("aab", "aaab")), count_befores_of_all(("ab", "aab"), 3, 2),
                   futures("aba")],
                  [1, ["aab", "ab"], "ab", 1, ((0,), (1,), (2,))])

    def test_order(self):
        self.same([row_numbers("aaa", "a"), count_rows("aaa", "a"), count_all_rows("aaa", 1), order_height("aaa"),
                   covers("aaa"), between("aaa", "a"), sign_sum("aaa", "aa"), nim("aaa"), wins("aaa"),
                   winning_films("aaa"), game_lengths("aaa")],
                  [((1, 1), (2, 2)), 3, 3, 2, ["aa"], ["a", "aa", "aaa"], -1, 2, True, ["a"], (1, 2)])

    def test_chances(self):
        self.same([visit_chance("aaa", "aa"), mean_cuts("aaa"), mean_last_length("abcacb"), last_chances("abcacb"),
                   chances_behind("aaa", 1), mean_length("aaa", 1)],
                  [(2, 3), (5, 3), (7, 3), (("ab", (2, 3)), ("acb", (1, 3))), (("a", (1, 3)), ("aa", (2, 3))), (5, 3)])

    def test_middles(self):
        self.same([count_between("aaa", "a"), between_lengths("aaa", "a"), is_between("aaa", "aa", "a"),
                   one_cut_off("aaa", "a"), nim_of_all(("aaa", "aa")), winning_cuts(("aaa", "aa")),
                   turned_wins("aa"), first_missing("aaa"), nim_counts(2, 2)],
                  [3, ((1, 1), (2, 1), (3, 1)), True, True, 3, ((0, "aa"),), False, 3, ((0, 2), (1, 2))])

    def test_census(self):
        self.same([count_pairs(2, 2), outcome_census(2, 2), cuts_census(2, 2), richest(3, 1), count_last(2, 8),
                   count_squeezed(3, 2), film_at(3, 2, 5), film_rank("bab", 2)],
                  [6, ((1, 2), (2, 2)), ((0, 2), (1, 2)), (3, "aaa"), 56, 2, "bab", 5])

    def test_rings(self):
        self.same([ring_name("bca"), same_ring("abc", "cab"), ring_period("abab"), ring_next("aba"),
                   is_last_ring("abc"), ring_comes("aba", "a"), ring_fewest("aba", "ab"), ring_partings("aba", "ab"),
                   ring_shortest("abab"), ring_outcomes("abab")],
                  ["abc", True, 2, ["a", "ab"], True, True, 1, 1, 2, ["ab", "abab"]])

    def test_walks(self):
        web = ("ab", "bc")
        self.same([is_walk(web, "abcb"), count_walks(web, "a", "c", 3), paths(web, "a", "c"), walks_to(web, "ab", 4),
                   web_of("abcb"), loop_cut("abcbd"), back_cut("abcbd"), loops("abcbd"),
                   count_loop_cut(web, "ab", 4)],
                  [True, 1, ["abc"], 2, ("ab", "bc"), "abd", "abd", ("bcb",), 2])

    def test_drawn(self):
        web = ("ab", "bc")
        self.same([path_chance(("ab", "ac", "bc"), "ab"), mean_path(web, "a", "c"), mean_steps(web, "a", "c"),
                   visit_mean(web, "a", "c", "b"), meets_first(web, "b", "a", "c")],
                  [(2, 3), (3, 1), (4, 1), (2, 1), (1, 2)])
        self.fails(NoWay, mean_steps, ("ab",), "a", "c")

    def test_glue(self):
        self.same([renamed("abc", "hgfedcba"), plain("cac"), alike("aba", "cdc"), joined("ab", "c"),
                   joins_freely("ab", "c"), repeated("ab", 2), squeezed("aabba"), runs("aab"),
                   inner_letters("abca", "a"), pairs_of("aba")],
                  ["hgf", "aba", True, "abc", True, "abab", "aba", (("a", 2), ("b", 1)), "bc", ["ab", "ba"]])

    def test_texts(self):
        self.same([write("aaab"), read("a3b2"), write_cuts("aba", ((0, 2),)), read_cuts("aba", "0-2")],
                  ["a3b", "aaabb", "0-2", ((0, 2),)])
        self.fails(InvalidText, read, "aa", place=1)

    def test_desks(self):
        desk = Desk("aabab", "ab")
        self.same([desk.left(), desk.good(), desk.best(), desk.cut(0, 1), desk.now, desk.left(), desk.undo(),
                   desk.change("aab"), desk.is_open(), desk.goal, desk.undoable],
                  [1, ((0, 1), (0, 3), (1, 3), (2, 4)), ((0, 3),), None, "abab", 1, None, None, True, "aab", 0])
