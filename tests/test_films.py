"""Point 2: films, letters, places."""

from jumpcuts.errors import BadFilm, BadNumber, BadPlace
from jumpcuts.films import first_again, is_last, kinds, next_like, places

from tests.plain import LONG_FILMS, NO_INTEGERS, PlainCase, films_of, some_films

NO_LETTERS = ("", "ab", "i", "A", " ", "aa", "abcdefgh", "\u00e4", None, 0, 1, True, False, (), ("a",), [], ["a"], {})
FILMS = films_of("ab", 1, 6) + films_of("abc", 1, 4) + some_films("abcdefgh", (1, 2, 7, 30, 200), 60, 11)
FILMS = FILMS + list(LONG_FILMS) + ["h", "ha", "abcdefgh", "hgfedcba"]


class Films(PlainCase):

    def test_kinds(self):
        self.same(kinds("a"), "a")
        self.same(kinds("h"), "h")
        self.same(kinds("ba"), "ab")
        self.same(kinds("hgfedcba"), "abcdefgh")
        self.same(kinds("a" * 200), "a")
        for film in FILMS:
            self.same(kinds(film), "".join(letter for letter in "abcdefgh" if letter in film), film)

    def test_is_last(self):
        for film, wanted in (("a", True), ("ab", True), ("aa", False), ("abcdefgh", True), ("abcdefgha", False),
                             ("a" * 200, False)):
            self.same(is_last(film), wanted, film)
        for film in FILMS:
            self.same(is_last(film), all(film.count(letter) == 1 for letter in film), film)

    def test_places(self):
        self.same(places("a", "a"), (0,))
        self.same(places("a", "h"), ())
        self.same(places("aba", "a"), (0, 2))
        self.same(places("a" * 200, "a"), tuple(range(200)))
        for film in FILMS:
            for letter in "abcdefgh":
                self.same(places(film, letter), tuple(k for k in range(len(film)) if film[k] == letter), film)

    def test_next_like(self):
        self.same(next_like("a", 0), None)
        self.same(next_like("aa", 0), 1)
        self.same(next_like("aa", 1), None)
        self.same(next_like("a" + "b" * 198 + "a", 0), 199)
        for film in FILMS:
            for place in range(len(film)):
                behind = [k for k in range(place + 1, len(film)) if film[k] == film[place]]
                self.same(next_like(film, place), behind[0] if behind else None, film, place)

    def test_first_again(self):
        self.same(first_again("a"), None)
        self.same(first_again("ab"), None)
        self.same(first_again("aaa"), (0, 1))
        self.same(first_again("abba"), (1, 2))
        self.same(first_again("abcdefgh" * 25), (0, 8))
        for film in FILMS:
            pairs = [(j, i) for j in range(len(film)) for i in range(j) if film[i] == film[j]]
            wanted = (min(pairs)[1], min(pairs)[0]) if pairs else None
            self.same(first_again(film), wanted, film)


class WrongValues(PlainCase):

    def test_no_film(self):
        for call in (kinds, is_last, first_again):
            self.fails_for_no_film(BadFilm, call)
        self.fails_for_no_film(BadFilm, places, behind=("a",))
        self.fails_for_no_film(BadFilm, next_like, behind=(0,))

    def test_films_of_the_greatest_size_are_films(self):
        self.same(kinds("h" * 200), "h")
        self.fails(BadFilm, kinds, "h" * 201, place=None)

    def test_no_letter(self):
        for value in NO_LETTERS:
            self.fails(BadNumber, places, "abca", value)

    def test_no_place(self):
        for value in NO_INTEGERS + (-1, 4, 5, 10 ** 30, -10 ** 30):
            self.fails(BadPlace, next_like, "abca", value)
        self.fails(BadPlace, next_like, "a", 1)

    def test_the_film_comes_first(self):
        self.fails(BadFilm, places, "aib", "i", place=1)
        self.fails(BadFilm, places, None, None, place=None)
        self.fails(BadFilm, next_like, "abi", 7, place=2)
        self.fails(BadFilm, next_like, "", True, place=None)
