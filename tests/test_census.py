"""Point 25: all films of a size told together, and their order by the alphabet."""

import random

from jumpcuts.census import (
    count_last, count_pairs, count_squeezed, cuts_census, film_at, film_rank, outcome_census, richest,
)
from jumpcuts.errors import BadFilm, BadNumber

from tests.plain import LONG_FILMS, NO_INTEGERS, PlainCase, films_of, numbers_by_goal, plain_cuts, plain_outcomes

ALL = "abcdefgh"
OF_ALL = (count_pairs, outcome_census, cuts_census, richest)
OF_LONG = (count_last, count_squeezed)


def told(numbers):
    return tuple((number, numbers.count(number)) for number in sorted(set(numbers)))


class AllFilms(PlainCase):

    def check(self, size, many):
        films = films_of(ALL[:many], size, size)
        counts = [len(plain_outcomes(film)) for film in films]
        self.same(count_pairs(size, many), sum(counts), size, many)
        self.same(outcome_census(size, many), told(counts), size, many)
        highest = [max(max(numbers) for numbers in numbers_by_goal(film).values()) for film in films]
        self.same(cuts_census(size, many), told(highest), size, many)
        self.same(richest(size, many), (max(counts), films[counts.index(max(counts))]), size, many)

    def test_all_sizes(self):
        for size in range(1, 8):
            for many in (1, 2, 3):
                self.check(size, many)

    def test_small(self):
        self.same([count_pairs(1, 1), outcome_census(1, 1), cuts_census(1, 1), richest(1, 1)],
                  [1, ((1, 1),), ((0, 1),), (1, "a")])
        self.same([count_pairs(1, 3), outcome_census(1, 3), cuts_census(1, 3), richest(1, 3)],
                  [3, ((1, 3),), ((0, 3),), (1, "a")])
        self.same([count_pairs(7, 1), outcome_census(7, 1), cuts_census(7, 1), richest(7, 1)],
                  [7, ((7, 1),), ((6, 1),), (7, "aaaaaaa")])


class Counts(PlainCase):

    def test_against_all_films(self):
        for many, most in ((1, 8), (2, 8), (3, 7), (4, 5), (5, 5), (6, 4), (7, 4), (8, 4)):
            for size in range(1, most + 1):
                films = films_of(ALL[:many], size, size)
                self.same(count_last(size, many), sum(1 for film in films if not plain_cuts(film)), size, many)
                unlike = sum(1 for film in films if all(film[at] != film[at - 1] for at in range(1, size)))
                self.same(count_squeezed(size, many), unlike, size, many)

    def test_large(self):
        self.same([count_last(8, 8), count_last(7, 8), count_last(9, 8), count_last(200, 8)], [40320, 40320, 0, 0])
        self.same([count_last(1, 1), count_last(2, 1), count_last(200, 1), count_last(1, 8)], [1, 0, 0, 8])
        self.same([count_squeezed(1, 1), count_squeezed(2, 1), count_squeezed(200, 1)], [1, 0, 0])
        self.same([count_squeezed(200, 2), count_squeezed(200, 8), count_squeezed(1, 8)], [2, 8 * 7 ** 199, 8])


class Order(PlainCase):

    def test_against_all_films(self):
        for many, most in ((1, 5), (2, 5), (3, 4), (5, 3), (8, 3)):
            for size in range(1, most + 1):
                films = films_of(ALL[:many], size, size)
                self.same(films, sorted(films))
                for rank, film in enumerate(films):
                    self.same(film_at(size, many, rank), film, size, many, rank)
                    self.same(film_rank(film, many), rank, film, many)
                for rank in (len(films), len(films) + 1, 2 * len(films), 10 ** 200):
                    self.same(film_at(size, many, rank), None, size, many, rank)

    def test_inverse_of_each_other(self):
        draw = random.Random(331)
        for size in (1, 2, 8, 40, 199, 200):
            for many in range(1, 9):
                last = many ** size - 1
                for rank in [0, last, last // 2, max(0, last - 1)] + [draw.randint(0, last) for _ in range(5)]:
                    film = film_at(size, many, rank)
                    self.same([len(film), set(film) <= set(ALL[:many])], [size, True])
                    self.same(film_rank(film, many), rank, film, many)
                self.same(film_at(size, many, last), ALL[many - 1] * size)
                self.same(film_at(size, many, 0), "a" * size)
                self.same([film_at(size, many, last + 1), film_at(size, many, last * 8 + 9)], [None, None])
        self.same(film_at(200, 1, 1), None)

    def test_long_films(self):
        for film in LONG_FILMS:
            many = ALL.index(max(film)) + 1
            for letters in range(1, 9):
                if letters < many:
                    self.same(film_rank(film, letters), None, film, letters)
                else:
                    self.same(film_at(200, letters, film_rank(film, letters)), film, letters)
        self.same(film_rank("h" * 200, 8), 8 ** 200 - 1)

    def test_film_with_another_letter(self):
        self.same([film_rank("b", 1), film_rank("abc", 2), film_rank("hab", 7), film_rank("aah", 7)], [None] * 4)
        self.same([film_rank("a", 1), film_rank("b", 2), film_rank("h", 8), film_rank("aah", 8)], [0, 1, 7, 7])
        self.same(film_rank("a" * 199 + "b", 1), None)


class WrongValues(PlainCase):

    def test_sizes_and_many_of_all_films(self):
        for call in OF_ALL:
            for value in NO_INTEGERS + (0, -1, 8, 200, 10 ** 30):
                for many in (1, 3, 0, None):
                    self.fails(BadNumber, call, value, many)
            for value in NO_INTEGERS + (0, -1, 4, 8, 10 ** 30):
                for size in (1, 7, 8, None):
                    self.fails(BadNumber, call, size, value)

    def test_sizes_and_many(self):
        for call, more in [(call, ()) for call in OF_LONG] + [(film_at, (0,)), (film_at, (-1,)), (film_at, (None,))]:
            for value in NO_INTEGERS + (0, -1, 201, 10 ** 30):
                for many in (1, 8, 9, None):
                    self.fails(BadNumber, call, value, many, *more)
            for value in NO_INTEGERS + (0, -1, 9, 10 ** 30):
                for size in (1, 200, 201, None):
                    self.fails(BadNumber, call, size, value, *more)

    def test_ranks(self):
        for value in NO_INTEGERS + (-1, -2, -10 ** 30):
            for size, many in ((1, 1), (200, 8), (3, 2), (0, 1), (1, 9)):
                self.fails(BadNumber, film_at, size, many, value)

    def test_film_rank(self):
        for many in (1, 8, 0, None):
            self.fails_for_no_film(BadFilm, film_rank, behind=(many,))
        for value in NO_INTEGERS + (0, -1, 9, 10 ** 30):
            for film in ("a", "h", "ab" * 100):
                self.fails(BadNumber, film_rank, film, value)
