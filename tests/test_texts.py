"""Point 31: texts of films and of rows of cuts."""

import random
import re
from itertools import groupby, product

from jumpcuts.errors import BadCuts, BadFilm, InvalidText, NotText
from jumpcuts.texts import read, read_cuts, write, write_cuts

from tests.plain import LONG_FILMS, PlainCase, films_of, plain_cut, plain_cuts, plain_rows, some_films

ALL = "abcdefgh"
NO_TEXTS = (None, True, False, 0, 12, (), ("a",), ("0-1",), [], ["a"], {}, {"a": "a"}, "a" * 1001, "ab" * 501,
            "i" * 1001, " " * 2000, "0" * 1001, "0-1 " * 251)
# Signs that are digits, or nearly so, in other writings.
OTHER_DIGITS = ("\u0663", "\u00b2", "\uff12", "\u2460", "\u0968", "\u00bd", "\U0001d7d0")


def plain_text(film):
    parts = []
    for letter, alike in groupby(film):
        many = len(list(alike))
        parts.append(letter if many == 1 else f"{letter}{many}")
    return "".join(parts)


def plain_read(text):
    """The film of a text, or the place that is wrong in it."""
    if not text:
        return 0
    film = ""
    for part in re.finditer("([a-h])([0-9]*)|.", text, re.DOTALL):
        letter, digits = part.group(1), part.group(2)
        if not letter or letter == film[-1:]:
            return part.start()
        if digits and not re.fullmatch("[2-9]|[1-9][0-9]{1,2}", digits):
            return part.start(2)
        film += letter * int(digits or "1")
        if len(film) > 200:
            return part.start()
    return film


def plain_read_cuts(text):
    """The pairs of a text, or the place that is wrong in it."""
    if not text:
        return ()
    signs = re.findall("[0-9]+|.", text, re.DOTALL)
    places = [sum(map(len, signs[:at])) for at in range(len(signs))]
    for at, (sign, place) in enumerate(zip(signs, places)):
        due = ("0|[1-9][0-9]{0,2}", "-", "0|[1-9][0-9]{0,2}", " ")[at % 4]
        if not re.fullmatch(due, sign):
            return place
    if len(signs) % 4 != 3:
        return len(text)
    return tuple((int(signs[at]), int(signs[at + 2])) for at in range(0, len(signs), 4))


def some_rows(film, draw):
    """A row of cuts of a film, drawn."""
    rows = []
    while plain_cuts(film) and draw.random() < 0.95:
        pair = draw.choice(plain_cuts(film))
        rows.append(pair)
        film = plain_cut(film, pair)
    return tuple(rows)


class Films(PlainCase):

    def check(self, text):
        wanted = plain_read(text)
        if isinstance(wanted, int):
            self.fails(InvalidText, read, text, place=wanted)
        else:
            self.same(read(text), wanted, text)
            self.same(write(wanted), text)

    def test_write_and_read(self):
        films = films_of("ab", 1, 9) + films_of("abc", 1, 6) + some_films("abcd", (9, 14, 20), 60, 411)
        films += some_films(ALL, (8, 30, 199), 40, 412) + ["h", "a" * 9 + "b" * 10 + "c" * 99 + "d"]
        films += list(LONG_FILMS) + ["h" * 200] + some_films("ab", (200,), 5, 413) + some_films(ALL, (200,), 5, 414)
        for film in films:
            text = write(film)
            self.same(text, plain_text(film), film)
            self.same(read(text), film, text)
        self.same([write("a" * 200), write("ab" * 100), write("a" * 199 + "b")], ["a200", "ab" * 100, "a199b"])

    def test_all_short_texts(self):
        for size in range(5):
            for signs in product("ab012 -", repeat=size):
                self.check("".join(signs))
        for signs in product("ah0129", repeat=5):
            self.check("".join(signs))
        for digits in product("0129", repeat=4):
            self.check("a" + "".join(digits))
            self.check("ba" + "".join(digits) + "c")

    def test_drawn_texts(self):
        draw = random.Random(415)
        for _ in range(4000):
            parts = [draw.choice("abch") + draw.choice(("", "", "", "2", "3", "17", "60", "99", "0", "1", "02", "120"))
                     for _ in range(draw.randint(1, 9))]
            if draw.random() < 0.3:
                parts.insert(draw.randint(0, len(parts)), draw.choice(("i", "A", " ", "-", "\n", ".", "1", "\u0663")))
            self.check("".join(parts))

    def test_places(self):
        wrong = (
            ("", 0), ("i", 0), ("A", 0), (" a", 0), ("a ", 1), ("2a", 0), ("0", 0), ("-", 0), ("aa", 1), ("a2a", 2),
            ("aba2a2", 4), ("abb", 2), ("a0", 1), ("a1", 1), ("a01", 1), ("a02", 1), ("a00", 1), ("a2b1", 3),
            ("a1000", 1), ("a0000", 1), ("ab1234c", 2), ("a2000000000000000000000000000000", 1), ("a201", 0),
            ("a999", 0), ("ba999", 1), ("a199bc", 5), ("a199b2", 4), ("a200b", 4), ("a100b100c", 8), ("a100b101", 4),
            ("a100b101i", 4), ("a201b1", 0), ("a201i", 0), ("a2iA", 2), ("a2-3", 2), ("a2 b", 2), ("a2\n", 2),
            ("a200a", 4), ("a200b0", 5), ("a200b201", 4), ("a200b1000", 5), ("a3b2c", None), ("a1b", 1),
            ("ab\u00e4", 2), ("a+2", 1), ("a2_0", 2), ("a2.0", 2), ("\u0430", 0),
        )
        for text, place in wrong:
            if place is None:
                self.same(read(text), "aaabbc")
            else:
                self.fails(InvalidText, read, text, place=place)
        for sign in OTHER_DIGITS:
            self.fails(InvalidText, read, sign, place=0)
            self.fails(InvalidText, read, "a" + sign, place=1)
            self.fails(InvalidText, read, "a2" + sign, place=2)
            self.fails(InvalidText, read, "ab12" + sign + "c", place=4)
        self.same([read("a2"), read("a10"), read("a200"), read("ab199"), read("h")],
                  ["aa", "a" * 10, "a" * 200, "a" + "b" * 199, "h"])

    def test_long_texts(self):
        self.fails(InvalidText, read, "ab" * 500, place=200)
        self.fails(InvalidText, read, "a" * 1000, place=1)
        self.fails(InvalidText, read, "a" + "2" * 999, place=1)
        self.fails(InvalidText, read, "ab" * 99 + "a2" + "b" * 800, place=200)
        self.fails(InvalidText, read, "ab" * 99 + "a3" + "b" * 800, place=198)
        self.fails(InvalidText, read, "ab" * 99 + "ab2" + "i" * 799, place=199)
        for text in ("a" * 1001, "ab" * 501, "a" + "2" * 1000, "i" * 1001, " " * 1001):
            self.fails(NotText, read, text)


class Cuts(PlainCase):

    def check(self, film, rows):
        text = write_cuts(film, rows)
        self.same(text, " ".join("-".join([str(first), str(second)]) for first, second in rows), film, rows)
        if len(text) <= 1000:
            self.same(read_cuts(film, text), rows, film, text)
        else:
            self.fails(NotText, read_cuts, film, text)

    def test_write_and_read(self):
        for film in films_of("ab", 1, 4) + ["abcabc", "aabab", "aaaaa", "abacab"]:
            for rows, _ in plain_rows(film):
                self.check(film, rows)
        draw = random.Random(416)
        films = some_films("ab", (12, 30), 20, 417) + some_films(ALL, (20, 60), 20, 418) + list(LONG_FILMS)
        for film in films + some_films("ab", (200,), 3, 419) + some_films(ALL, (200,), 3, 420):
            for _ in range(4):
                self.check(film, some_rows(film, draw))

    def test_texts_of_1000_signs_and_of_more(self):
        film = "a" * 200
        ahead = ((100, 101),) * 96 + ((0, 1),) * 57
        for last, size in (((9, 10), 1000), ((10, 11), 1001)):
            rows = ahead + (last,)
            self.same(len(write_cuts(film, rows)), size)
            self.check(film, rows)
        rows = tuple((at, at + 1) for at in range(198, -1, -1))
        self.same([len(write_cuts(film, rows)) > 1000, write_cuts(film, rows)[:15]], [True, "198-199 197-198"])
        self.check(film, rows)
        self.fails(InvalidText, read_cuts, film, "0-1 " * 250, place=1000)
        self.fails(InvalidText, read_cuts, film, " ".join(["0-1"] * 249) + " 0--", place=998)
        self.fails(InvalidText, read_cuts, film, "0-" + "1" * 998, place=2)
        self.fails(InvalidText, read_cuts, film, "1" * 1000, place=0)
        self.fails(BadCuts, read_cuts, film, " ".join(["0-1"] * 250), index=199)

    def test_empty(self):
        for film in ("a", "aab", "ab" * 100):
            self.same([write_cuts(film, ()), read_cuts(film, "")], ["", ()])

    def check_text(self, film, text):
        wanted = plain_read_cuts(text)
        if isinstance(wanted, int):
            self.fails(InvalidText, read_cuts, film, text, place=wanted)
            return
        now = film
        for index, pair in enumerate(wanted):
            if pair not in plain_cuts(now):
                self.fails(BadCuts, read_cuts, film, text, index=index)
                return
            now = plain_cut(now, pair)
        self.same(read_cuts(film, text), wanted, film, text)

    def test_all_short_texts(self):
        for size in range(6):
            for signs in product("012- x", repeat=size):
                self.check_text("aaab", "".join(signs))
        for signs in product("01- ", repeat=7):
            self.check_text("aa", "".join(signs))

    def test_drawn_texts(self):
        draw = random.Random(421)
        numbers = ("0", "1", "2", "3", "5", "10", "11", "19", "100", "01", "00", "199", "200", "999", "1000", "")
        for film in ("a" * 20, "ab" * 10, "a" * 200, "abcdefgh" * 25):
            for _ in range(600):
                parts = []
                for _ in range(draw.randint(1, 4)):
                    first = draw.randint(0, 4)
                    pair = (str(first), str(first + draw.randint(1, 8)))
                    if draw.random() < 0.3:
                        pair = (draw.choice(numbers), draw.choice(numbers))
                    parts.append(draw.choice(("-", "-", "-", "-", "-", "--", " ", "")).join(pair))
                text = draw.choice((" ", " ", " ", " ", "  ", ",")).join(parts)
                text += draw.choice(("", "", "", "", " ", "-", "x", "0", "\u0663"))
                self.check_text(film, text)

    def test_places(self):
        wrong = (
            (" ", 0), ("-", 0), ("x", 0), ("0", 1), ("0-", 2), ("0-1 ", 4), ("0-1  0-1", 4), (" 0-1", 0), ("0 1", 1),
            ("0--1", 2), ("-0-1", 0), ("0-1-2", 3), ("0-1,", 3), ("0-1x", 3), ("0-1 x", 4), ("0-1 0", 5), ("0-1 0-", 6),
            ("0-1 0-1 ", 8), ("01-2", 0), ("0-01", 2), ("00-1", 0), ("0-00", 2), ("0-1000", 2), ("1000-1", 0),
            ("0-1 0-1000", 6), ("0-1 01-2", 4), ("0-1\n", 3), ("0-1\t0-1", 3), ("0- 1", 2), ("0 -1", 1), ("0-1 -", 4),
            ("0-+1", 2), ("0-1_0", 3), ("0-1.", 3), ("99999999999999999999-1", 0), ("0-1 2", 5), ("12", 2),
            ("123-45", None), ("0-\u0663", 2), ("\u00b2-1", 0), ("0-1\u00b2", 3), ("1\u0663-2", 1), ("0\u20131", 1),
            ("000", 0),
        )
        for text, place in wrong:
            if place is None:
                self.fails(BadCuts, read_cuts, "ab" * 100, text, index=0)
            else:
                self.fails(InvalidText, read_cuts, "a" * 200, text, place=place)
                self.fails(InvalidText, read_cuts, "b", text, place=place)

    def test_no_cuts(self):
        for film, text, index in (("ab", "0-1", 0), ("aa", "0-2", 0), ("aa", "0-999", 0), ("aa", "999-999", 0),
                                  ("aa", "1-0", 0), ("aa", "0-0", 0), ("aa", "0-1 0-1", 1), ("aaa", "0-1 0-1 0-1", 2),
                                  ("a" * 200, "0-200", 0), ("a" * 200, "0-199 0-1", 1), ("a" * 200, "0-201", 0)):
            self.fails(BadCuts, read_cuts, film, text, index=index)
        self.same([read_cuts("a" * 200, "0-199"), read_cuts("a" * 200, "10-100"), read_cuts("aaa", "0-1 0-1")],
                  [((0, 199),), ((10, 100),), ((0, 1), (0, 1))])
        # A wrong sign comes ahead of a cut that is none, wherever it stands.
        self.fails(InvalidText, read_cuts, "ab", "0-1 0-1x", place=7)


class WrongValues(PlainCase):

    def test_no_films(self):
        self.fails_for_no_film(BadFilm, write)
        for rows in ((), ((0, 1),), None, ((5, 9),)):
            self.fails_for_no_film(BadFilm, write_cuts, behind=(rows,))
        for text in ("", "0-1", None, "x", "0-1" * 400):
            self.fails_for_no_film(BadFilm, read_cuts, behind=(text,))

    def test_no_texts(self):
        for value in NO_TEXTS:
            self.fails(NotText, read, value)
            for film in ("a", "aa", "ab" * 100):
                self.fails(NotText, read_cuts, film, value)

    def test_no_rows(self):
        for value in (None, True, False, 0, 1, "", "0-1", [], [(0, 1)], {}, {0: 1}):
            self.fails(BadCuts, write_cuts, "aab", value, index=None)
        for rows, index in (((None,), 0), (((0, 2),), 0), (((0, 1), (0, 1)), 1), (((0, 1), [0, 1]), 1),
                            (((True, 1),), 0), (((0, True),), 0), (((0, 1, 2),), 0), ((0, 1), 0), (((1, 0),), 0),
                            (("01",), 0), (((0, 1), (0, 3), None), 1), (((0, 200),), 0), (((-3, 1),), 0)):
            self.fails(BadCuts, write_cuts, "aab", rows, index=index)
