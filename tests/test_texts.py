"""Points 2 and 30: texts, written and read."""

import random
import re
import unittest

from tests.support import (
    THIRTY, all_orders, asker_owns, drawn_letters, drawn_orders, drawn_poly, falling, look_at_poly, refused, rising,
)
from undercells.errors import NoText
from undercells.polys import times
from undercells.tables import tables
from undercells.texts import read_order, read_poly, read_word, show_order, show_poly, show_table, show_word

SIGNS = [chr(code) for code in range(32, 127) if chr(code) != "%"]
NUMBER = r"(?:0|[1-9][0-9]{0,29})"
NUMBERS = re.compile(NUMBER + "(?: " + NUMBER + r")*\Z")


def order_of(text):
    """The order of a text by the words of 30, or None."""
    if not NUMBERS.match(text):
        return None
    order = tuple(int(part) for part in text.split())
    return order if len(order) <= 20 and sorted(order) == list(range(1, len(order) + 1)) else None


def word_of(text):
    """The word of a text by the words of 30, or None."""
    if text == "-":
        return []
    if not NUMBERS.match(text):
        return None
    word = [int(part) for part in text.split()]
    return word if len(word) <= 200 and all(1 <= k <= 19 for k in word) else None


def term_of(text):
    """The power and the number of a term without its sign, or None."""
    if re.fullmatch("[1-9][0-9]{0,29}", text):
        return (0, int(text))
    found = re.fullmatch(r"(?:([1-9][0-9]{0,29})\*)?v(?:\^(-?[1-9][0-9]?))?", text)
    if not found or found[1] == "1" or found[2] == "1" or abs(int(found[2] or 1)) > 60:
        return None
    return (int(found[2] or 1), int(found[1] or 1))


def poly_of(text):
    """The polynomial of a text by the words of 30, or None."""
    if text == "0":
        return []
    pieces = re.split(r" ([+-]) ", text)
    pieces = (["-", pieces[0][1:]] if pieces[0][:1] == "-" else ["+", pieces[0]]) + pieces[1:]
    terms = [term_of(piece) for piece in pieces[1::2]]
    if None in terms or len(terms) > 40:
        return None
    poly = [(power, -size if sign == "-" else size) for sign, (power, size) in zip(pieces[::2], terms)]
    powers = [power for power, number in poly]
    return poly if all(one < other for one, other in zip(powers, powers[1:])) else None


def near(text, draw, many):
    """Texts that come of one by a sign put in, taken out or changed, or two that change places."""
    for at in range(len(text)):
        yield text[:at] + text[at + 1:]
        yield text[:at] + text[at] + text[at:]
        yield text[:at] + text[at:at + 2][::-1] + text[at + 2:]
    for k in range(many):
        at = draw.randrange(len(text) + 1)
        sign = draw.choice(SIGNS + list("0123456789 -+*^v") * 5)
        yield text[:at] + sign + text[at:]
        yield text[:at] + sign + text[at + 1:]


class Texts(unittest.TestCase):

    def look_at_read(self, function, text, due):
        if due is None:
            refused(self, NoText, function, text)
        else:
            told = function(text)
            self.assertEqual(told, due, text)
            self.assertIs(type(told), type(due))
            for part in told:
                self.assertTrue(all(type(one) is int for one in (part if isinstance(part, tuple) else [part])))

    def look_near(self, function, texts, reckoned, seed, least):
        """Look at texts near good ones, some of which are good as well."""
        draw = random.Random(seed)
        met = 0
        for text in texts:
            self.look_at_read(function, text, reckoned(text))
            for other in near(text, draw, 200):
                met += reckoned(other) is not None
                self.look_at_read(function, other, reckoned(other))
        self.assertGreaterEqual(met, least)


class Orders(Texts):

    def test_by_hand(self):
        self.assertEqual(show_order((1,)), "1")
        self.assertEqual(show_order((2, 3, 1)), "2 3 1")
        self.assertEqual(show_order(falling(20)), "20 19 18 17 16 15 14 13 12 11 10 9 8 7 6 5 4 3 2 1")
        self.assertEqual(read_order("1"), (1,))
        self.assertEqual(read_order("2 3 1"), (2, 3, 1))

    def test_written_and_read_again(self):
        orders = [order for n in range(1, 5) for order in all_orders(n)] + drawn_orders(211, 80)
        for order in orders + [rising(20), falling(20)]:
            text = show_order(order)
            self.assertIs(type(text), str)
            self.assertEqual(text, " ".join(map(str, order)))
            self.look_at_read(read_order, text, order)

    def test_texts_that_are_none(self):
        for text in [
            "", " ", "-", "0", "2", "1 1", "1 3", "0 1", "1 0", "2 1 ", " 2 1", "2  1", "2 01", "02 1", "+2 1", "2 +1",
            "-2 1", "2 -1", "2,1", "2, 1", "(2, 1)", "2 1.", "2 1.0", "2 a", "a", "v", "1 2 2", "1 2 4", "1_0", "2 1 -",
            "1e0", "0x1", "00", "1" * 31, "1" * 30, "9" * 1560, " " * 1560, "1 " * 780, "1 2 " + "0" * 29 + "3",
            show_order(rising(21)), show_order(falling(21)), " ".join(map(str, range(1, 300))), "~", "2/1", "'2 1'",
        ]:
            self.look_at_read(read_order, text, None)

    def test_near(self):
        texts = ["1", "2 1", "3 1 2", "10 9 8 7 6 5 4 3 2 1", show_order(drawn_orders(212, 1, 20, 20)[0])]
        self.look_near(read_order, texts, order_of, 213, 10)


class Words(Texts):

    def test_by_hand(self):
        self.assertEqual(show_word([]), "-")
        self.assertEqual(show_word([3]), "3")
        self.assertEqual(show_word([1, 2, 1, 19]), "1 2 1 19")
        self.assertEqual(read_word("-"), [])
        self.assertEqual(read_word("1 2 1 19"), [1, 2, 1, 19])

    def test_written_and_read_again(self):
        draw = random.Random(214)
        words = [[draw.randint(1, 19) for many in range(k)] for k in range(201)]
        for word in words + [[1] * 200, [19] * 200, [10] * 200]:
            text = show_word(word)
            self.assertIs(type(text), str)
            self.assertEqual(text, " ".join(map(str, word)) or "-")
            self.look_at_read(read_word, text, word)

    def test_texts_that_are_none(self):
        for text in [
            "", " ", "--", "- ", " -", "- 1", "1 -", "0", "20", "1 0", "1 20", "99", "1 2 ", " 1 2", "1  2", "01", "1 02",
            "+1", "-1", "1 -2", "1,2", "[1, 2]", "[]", "a", "1 a", "v", "1.0", "1_9", "1" * 30, "1" * 31, "00", "19 00",
            " ".join(["1"] * 201), " ".join(["1"] * 780), " ".join(["19"] * 201), " ".join(["19"] * 520), "1/2", "~",
        ]:
            self.look_at_read(read_word, text, None)

    def test_near(self):
        texts = ["-", "1", "19", "1 2 1", "10 19 1 1 7", " ".join(["12"] * 200)]
        self.look_near(read_word, texts, word_of, 215, 50)

    def test_told_words_are_new(self):
        for text in ["-", "1", "1 2 1"]:
            asker_owns(self, read_word, text)
        for word in [[], [1], [2, 1, 2]]:
            asker_owns(self, show_word, word)


class Polynomials(Texts):

    def test_by_hand(self):
        for poly, text in [
            ([], "0"), ([(0, 1)], "1"), ([(0, -1)], "-1"), ([(0, 7)], "7"), ([(1, 1)], "v"), ([(1, -1)], "-v"),
            ([(1, 2)], "2*v"), ([(1, -2)], "-2*v"), ([(2, 1)], "v^2"), ([(-1, 1)], "v^-1"), ([(-1, -1)], "-v^-1"),
            ([(-60, -12), (60, 1)], "-12*v^-60 + v^60"), ([(-1, 1), (1, -1)], "v^-1 - v"), ([(0, 11)], "11"),
            ([(-2, 3), (0, -1), (1, 1), (2, -1), (10, -10)], "3*v^-2 - 1 + v - v^2 - 10*v^10"),
            ([(0, 1), (1, 1), (2, 1)], "1 + v + v^2"), ([(-3, -1), (0, 5), (1, -1)], "-v^-3 + 5 - v"),
            ([(0, THIRTY)], "9" * 30), ([(1, 11), (11, -1)], "11*v - v^11"), ([(-10, 1), (1, 10)], "v^-10 + 10*v"),
        ]:
            self.assertEqual(show_poly(poly), text)
            self.assertIs(type(show_poly(poly)), str)
            self.look_at_read(read_poly, text, poly)
            self.assertEqual(poly_of(text), poly)

    def test_written_and_read_again(self):
        draw = random.Random(216)
        for k in range(250):
            poly = drawn_poly(draw, k % 41, [3, 20, 60][k % 3] if k % 41 < 7 else 60, [1, 2, 12, THIRTY][k % 4])
            text = show_poly(poly)
            self.assertEqual(poly_of(text), poly)
            self.look_at_read(read_poly, text, poly)
            look_at_poly(self, read_poly(text))
        for power in range(-60, 61):
            for number in [1, -1, 2, -2, 10, -10, THIRTY, -THIRTY]:
                self.look_at_read(read_poly, show_poly([(power, number)]), [(power, number)])

    def test_the_longest_text(self):
        poly = [(power, -THIRTY) for power in range(-60, -20)]
        self.assertLessEqual(len(show_poly(poly)), 1560)
        self.look_at_read(read_poly, show_poly(poly), poly)

    def test_forty_terms_and_more(self):
        for many in [39, 40, 41, 60, 121]:
            poly = [(power - 60, 1) for power in range(many)]
            self.look_at_read(read_poly, show_poly(poly), poly if many <= 40 else None)

    def test_texts_that_are_none(self):
        for text in [
            "", " ", "-", "+", "-0", "+0", "00", "0 + v", "v + 0", "0*v", "0*v^2", "v - 0", "v^0", "v^1", "v^-0", "v^01",
            "v^+2", "v^-01", "2*v^0", "2*v^1", "1*v", "-1*v", "1*v^2", "v + 1*v^2", "01", "02*v", "v^2 + v", "v + 1",
            "v + v", "1 + 1", "v^2 + v^2", "1 + v^-1", "v^61", "v^-61", "v^100", "v^-" + "9" * 30, "2v", "2v^2", "2 * v",
            "v*2", "v^2*3", "2*", "*v", "v*", "v^", "v^-", "^2", "v2", "v-2", "vv", "v v", "v^2^3", "v^2v", "v+v^2",
            "v +v^2", "v+ v^2", "v  + v^2", "v +  v^2", " v", "v ", " v + v^2", "v + v^2 ", "+v", "+ v", "- v", "+1",
            "--v", "-+v", "v + -v^2", "v - -v^2", "v + +v^2", "v - +v^2", "v +", "v -", "+ v^2", "v + + v^2", "v + ",
            "1 2", "v v^2", "1 v", "V", "x", "z", "v**2", "v^ 2", "v ^2", "2 *v", "2* v", "2**v", "2*3", "2*3*v", "2*2",
            "2*v*v", "v*v", "1.0", "1_0", "1e3", "0x1", "(v)", "[(0, 1)]", "[]", "v^2.0", "v^2 * 3", "v / v^2", "v , v^2",
            "1" * 31, "-" + "1" * 31, "1" * 31 + "*v", "v + " + "1" * 31 + "*v^2", "0" * 30, "9" * 1560, " " * 1560,
            "v" * 1560, "-" * 1560, "v^" + "0" * 28 + "2", "v^" + "2" * 31, "~", "0 0", "0 ", " 0", "- 1", "1 - 2*v - -",
        ]:
            self.assertIsNone(poly_of(text), text)
            self.look_at_read(read_poly, text, None)

    def test_near(self):
        texts = [
            "0", "1", "-1", "v", "-v", "v^2", "2*v", "-12*v^-13", "v^-1 - v", "-v^-1 + 3 + v - 5*v^2",
            "10*v^-60 - 11*v^-12 + v^-2 - v^-1 - 7 + 20*v + v^60",
        ]
        self.look_near(read_poly, texts, poly_of, 217, 200)

    def test_great_told_numbers(self):
        """What was told may be handed in again, whatever its size: also beyond what Python writes at once."""
        poly = [(0, THIRTY), (1, -1)]
        for k in range(8):
            poly = times(poly, poly)
        text = show_poly(poly)
        self.assertGreater(poly[0][1], 10 ** 7000)
        self.assertTrue(re.fullmatch(r"[0-9]+( [+-] ([0-9]+\*)?v(\^[0-9]+)?)+", text))
        terms = re.findall(r"(?:^|[+-] )([0-9]+)?", text)
        self.assertEqual(len(terms), len(poly))
        for (power, number), written in zip(poly, terms):
            left = abs(number)
            for at in range(len(written), 0, -1000):
                piece = written[max(0, at - 1000):at]
                left, last = divmod(left, 10 ** len(piece))
                self.assertEqual(last, int(piece))
            self.assertEqual(left, 0 if written else 1)
        for number in [10 ** 64, 10 ** 64 - 1, 10 ** 64 + 1, 10 ** 128, 3 * 10 ** 130 + 7]:
            self.assertEqual(show_poly([(0, number)]), str(number))
            self.assertEqual(show_poly([(2, -number)]), f"-{number}*v^2")

    def test_told_polynomials_are_new(self):
        for text in ["0", "1", "v^-1 - v"]:
            asker_owns(self, read_poly, text)
        for poly in [[], [(0, 1)], [(-1, 1), (1, -1)]]:
            asker_owns(self, show_poly, poly)


class Tables(Texts):

    def test_by_hand(self):
        for table, text in [
            ([], "-"), ([[7]], "7"), ([[1, 1, 2]], "1 1 2"), ([[1], [2], [3]], "1 / 2 / 3"),
            ([[1, 3], [2]], "1 3 / 2"), ([[1, 10 ** 9], [10 ** 9]], "1 1000000000 / 1000000000"),
        ]:
            self.assertEqual(show_table(table), text)
            self.assertIs(type(show_table(table)), str)
            asker_owns(self, show_table, table)

    def test_drawn(self):
        draw = random.Random(218)
        for k in range(60):
            for table in tables(drawn_letters(draw, 1 + k % 40, [3, 9, 100, 10 ** 9][k % 4])):
                rows = show_table(table).split(" / ")
                self.assertEqual([[int(number) for number in row.split(" ")] for row in rows], table)


if __name__ == "__main__":
    unittest.main()
