"""Points 2 and 31: the desk."""

import itertools
import random
import unittest

from tests.support import (
    all_bars, all_orders, back_of, beyond_pairs, drawn_letters, drawn_order, drawn_pairs, falling, is_under, refused,
    rising, swapped, walked,
)
from undercells.chains import between
from undercells.desk import Desk
from undercells.errors import NoName, NoPair, NoRow, NoText, NoWord, TooMany
from undercells.kept import kept_sum
from undercells.parts import polynomial
from undercells.plains import first_four
from undercells.tables import shape, tables
from undercells.texts import show_order, show_poly, show_table, show_word
from undercells.words import first_word

ONE_NAME = ["drop", "show", "word", "plain", "tables"]
TWO_NAMES = ["below", "between", "kept", "hearth"]
CHANGING = ["keep", "lead", "drop", "back"]


def names(many):
    """As many unlike names of two to eight letters."""
    letters = "abcdefghijklmnopqrstuvwxyz"
    return [letters[k % 26] * (1 + k % 7) + letters[k // 26] for k in range(many)]


def text_of(order):
    return " ".join(map(str, order))


class Desks(unittest.TestCase):

    def say(self, desk, row, due="ok"):
        told = desk.say(row)
        self.assertIs(type(told), str, row)
        self.assertEqual(told, due, row)

    def refuse(self, desk, row, error):
        refused(self, error, desk.say, row)

    def with_orders(self, *orders):
        """A desk that keeps orders by the names a, b and so on."""
        desk = Desk()
        for name, order in zip("abcdefgh", orders):
            self.say(desk, f"keep {name} {text_of(order)}")
        return desk

    def look_at_all(self, desk, kept, known):
        """Look that of the known names just those are kept that should be."""
        for name in known:
            if name in kept:
                self.say(desk, f"show {name}", text_of(kept[name]))
            else:
                self.refuse(desk, f"show {name}", NoName)


class Keeping(Desks):

    def test_keep_and_show(self):
        desk = Desk()
        self.say(desk, "keep a 2 1 3")
        self.say(desk, "show a", "2 1 3")
        self.say(desk, "keep abcdefgh 1")
        self.say(desk, "show abcdefgh", "1")
        self.say(desk, "keep a 1 2")
        self.say(desk, "show a", "1 2")
        self.say(desk, f"keep zz {text_of(falling(20))}")
        self.say(desk, "show zz", text_of(falling(20)))
        self.say(desk, "keep keep 2 1")
        self.say(desk, "keep undo 1 2")
        self.say(desk, "show keep", "2 1")
        self.say(desk, "show undo", "1 2")

    def test_lead(self):
        desk = self.with_orders((1, 2, 3))
        self.say(desk, "lead a 1 2")
        self.say(desk, "show a", "2 3 1")
        self.say(desk, "lead a -")
        self.say(desk, "show a", "2 3 1")
        self.say(desk, "lead a 1")
        self.say(desk, "show a", "3 2 1")
        self.say(desk, "lead a 1 1 1 2 1 2 1 2")
        self.say(desk, "show a", text_of(walked(3, first_word((3, 2, 1)) + [1, 1, 1, 2, 1, 2, 1, 2])))

    def test_lead_by_drawn_words(self):
        draw = random.Random(221)
        for k in range(60):
            n = 1 + k % 20
            order = drawn_order(draw, n)
            word = [draw.randrange(1, n) for many in range(draw.choice([0, 1, 5, 50, 200]))] if n > 1 else []
            desk = self.with_orders(order)
            self.say(desk, f"lead a {show_word(word)}")
            self.say(desk, "show a", text_of(walked(n, first_word(order) + word)))

    def test_lead_by_a_long_word_behind_a_long_first_word(self):
        desk = self.with_orders(falling(20))
        self.assertEqual(len(first_word(falling(20))), 190)
        self.say(desk, "lead a " + " ".join(["19"] * 199))
        self.say(desk, "show a", text_of(swapped(falling(20), 19, 20)))
        self.say(desk, "lead a " + " ".join(["1"] * 200))
        self.say(desk, "show a", text_of(swapped(falling(20), 19, 20)))

    def test_drop(self):
        desk = self.with_orders((1, 2), (2, 1))
        self.say(desk, "drop a")
        self.refuse(desk, "show a", NoName)
        self.refuse(desk, "drop a", NoName)
        self.say(desk, "show b", "2 1")
        self.say(desk, "keep a 1")
        self.say(desk, "show a", "1")

    def test_back(self):
        draw = random.Random(222)
        for k in range(30):
            order = drawn_order(draw, 1 + k % 20)
            desk = self.with_orders(order, (1, 2))
            self.say(desk, "back a c")
            self.say(desk, "show c", text_of(back_of(order)))
            self.say(desk, "show a", text_of(order))
            self.say(desk, "back a b")
            self.say(desk, "show b", text_of(back_of(order)))
            self.say(desk, "back a a")
            self.say(desk, "show a", text_of(back_of(order)))

    def test_forty_names(self):
        desk = Desk()
        some = names(42)
        self.assertEqual(len(set(some)), 42)
        for name in some[:40]:
            self.say(desk, f"keep {name} 2 3 1")
        for k in range(2):
            self.refuse(desk, f"keep {some[40]} 2 1", TooMany)
            self.refuse(desk, f"back {some[0]} {some[41]}", TooMany)
        self.look_at_all(desk, {name: (2, 3, 1) for name in some[:40]}, some)
        self.say(desk, f"keep {some[39]} 1")
        self.say(desk, f"back {some[0]} {some[1]}")
        self.say(desk, f"show {some[1]}", "3 1 2")
        self.say(desk, f"drop {some[5]}")
        self.say(desk, f"keep {some[40]} 2 1")
        self.refuse(desk, f"keep {some[5]} 2 1", TooMany)
        self.say(desk, "undo")
        self.say(desk, f"back {some[0]} {some[41]}")
        self.refuse(desk, f"back {some[0]} {some[40]}", TooMany)
        self.say(desk, "undo")
        self.say(desk, "undo")
        self.refuse(desk, f"keep {some[40]} 2 1", TooMany)
        self.look_at_all(desk, {
            name: {39: (1,), 1: (3, 1, 2)}.get(at, (2, 3, 1)) for at, name in enumerate(some[:40])
        }, some)


class Asking(Desks):

    def test_word(self):
        draw = random.Random(223)
        for order in [(1,), (1, 2), (2, 1), (3, 2, 1), falling(20)] + [drawn_order(draw, n) for n in range(1, 21)]:
            self.say(self.with_orders(order), "word a", show_word(first_word(order)))
        self.say(self.with_orders((3, 2, 1)), "word a", "1 2 1")
        self.say(self.with_orders((1, 2)), "word a", "-")

    def test_below(self):
        desk = self.with_orders((2, 1, 3), (1, 3, 2), (2, 3, 1))
        self.say(desk, "below a b", "no 1 2")
        self.say(desk, "below b a", "no 2 3")
        self.say(desk, "below a c", "yes")
        self.say(desk, "below c c", "yes")
        for one, other in drawn_pairs(224, 30):
            bars = all_bars(one, other)
            due = "no " + " ".join(map(str, bars[0])) if bars else "yes"
            self.say(self.with_orders(one, other), "below a b", due)

    def test_plain(self):
        draw = random.Random(225)
        for order in all_orders(4) + [drawn_order(draw, 1 + k % 20) for k in range(30)]:
            four = first_four(order)
            self.say(self.with_orders(order), "plain a", "yes" if four is None else "no " + " ".join(map(str, four)))
        self.say(self.with_orders((5, 1, 3, 4, 2)), "plain a", "no 1 3 4 5")

    def test_between(self):
        for one, other in itertools.product(all_orders(3), repeat=2):
            many = sum(1 for order in all_orders(3) if is_under(one, order) and is_under(order, other))
            self.say(self.with_orders(one, other), "between a b", str(many))
        self.say(self.with_orders(rising(6), falling(6)), "between a b", "720")
        self.say(self.with_orders(falling(6), rising(6)), "between a b", "0")
        nine = swapped(swapped(rising(9), 1, 2), 8, 9)
        self.say(self.with_orders(rising(9), nine), "between a b", "4")
        self.say(self.with_orders(nine, rising(9)), "between a b", "0")
        for one, other in drawn_pairs(226, 10, 1, 6):
            self.say(self.with_orders(one, other), "between a b", str(len(between(one, other))))

    def test_kept(self):
        desk = self.with_orders((1, 3, 2, 4), (3, 4, 1, 2), (1, 2, 3, 4))
        self.say(desk, "kept a b", "v + v^3")
        self.say(desk, "kept c b", "v^2 + v^4")
        self.say(desk, "kept b a", "0")
        self.say(desk, "kept a a", "1")
        self.say(self.with_orders(rising(5), (5, 2, 3, 4, 1)), "kept a b", "v^3 + 2*v^5 + v^7")
        for other in all_orders(4)[::3]:
            polys = dict(kept_sum(other))
            for one in all_orders(4):
                self.say(self.with_orders(one, other), "kept a b", show_poly(polys.get(one, [])))
        for one, other in [(rising(8), swapped(rising(8), 2, 4)), (rising(8), rising(8))]:
            self.say(self.with_orders(one, other), "kept a b", show_poly(polynomial(one, other)))

    def test_tables(self):
        draw = random.Random(227)
        for order in all_orders(4) + [drawn_order(draw, 1 + k % 20) for k in range(30)]:
            first, second = tables(list(order))
            self.say(self.with_orders(order), "tables a", show_table(first) + "; " + show_table(second))
        self.say(self.with_orders((2, 3, 1)), "tables a", "1 3 / 2; 1 2 / 3")
        self.say(self.with_orders((1,)), "tables a", "1; 1")

    def test_hearth(self):
        for n in range(1, 5):
            for one, other in itertools.product(all_orders(n), repeat=2):
                first, second = tables(list(one)), tables(list(other))
                same = (first[0] == second[0], first[1] == second[1])
                due = {(True, True): "one", (True, False): "right", (False, True): "left"}.get(same)
                if due is None:
                    due = "both" if shape(first[0]) == shape(second[0]) else "none"
                self.say(self.with_orders(one, other), "hearth a b", due)
        desk = self.with_orders((1, 3, 2), (3, 1, 2), (2, 3, 1), (3, 2, 1), (2, 1, 3))
        self.say(desk, "hearth a a", "one")
        self.say(desk, "hearth a b", "right")
        self.say(desk, "hearth a c", "left")
        self.say(desk, "hearth a e", "both")
        self.say(desk, "hearth a d", "none")

    def test_asking_is_nothing_to_undo(self):
        desk = self.with_orders((2, 1, 3), (1, 3, 2))
        for kind in ONE_NAME[1:]:
            desk.say(f"{kind} a")
        for kind in TWO_NAMES:
            desk.say(f"{kind} a b")
        self.say(desk, "undo")
        self.look_at_all(desk, {"a": (2, 1, 3)}, "ab")
        self.say(desk, "undo")
        self.refuse(desk, "undo", TooMany)


class Undoing(Desks):

    def test_each_kind_of_row(self):
        for row, left in [
            ("keep a 2 1", {"a": (2, 1), "b": (3, 1, 2)}), ("keep c 2 1", {"a": (2, 3, 1), "b": (3, 1, 2), "c": (2, 1)}),
            ("lead a 1", {"a": (3, 2, 1), "b": (3, 1, 2)}), ("lead a -", {"a": (2, 3, 1), "b": (3, 1, 2)}),
            ("drop a", {"b": (3, 1, 2)}), ("back a b", {"a": (2, 3, 1), "b": (3, 1, 2)}),
            ("back a c", {"a": (2, 3, 1), "b": (3, 1, 2), "c": (3, 1, 2)}), ("back a a", {"a": (3, 1, 2), "b": (3, 1, 2)}),
        ]:
            desk = self.with_orders((2, 3, 1), (3, 1, 2))
            self.say(desk, row)
            self.look_at_all(desk, left, "abc")
            self.say(desk, "undo")
            self.look_at_all(desk, {"a": (2, 3, 1), "b": (3, 1, 2)}, "abc")
            self.say(desk, "undo")
            self.look_at_all(desk, {"a": (2, 3, 1)}, "abc")
            self.say(desk, "undo")
            self.look_at_all(desk, {}, "abc")
            self.refuse(desk, "undo", TooMany)

    def test_nothing_to_undo(self):
        desk = Desk()
        for k in range(3):
            self.refuse(desk, "undo", TooMany)
        self.say(desk, "keep a 1")
        self.say(desk, "undo")
        self.refuse(desk, "undo", TooMany)
        self.refuse(desk, "show a", NoName)

    def test_rows_undone_are_not_done_again(self):
        desk = self.with_orders((1, 2))
        self.say(desk, "lead a 1")
        self.say(desk, "undo")
        self.say(desk, "show a", "1 2")
        self.say(desk, "undo")
        self.refuse(desk, "show a", NoName)
        self.say(desk, "keep b 2 1")
        self.say(desk, "undo")
        self.refuse(desk, "undo", TooMany)

    def test_twenty_rows_back_and_a_twenty_first(self):
        for many in [19, 20, 21, 22, 45]:
            desk = Desk()
            for k in range(many):
                self.say(desk, f"keep a {text_of(swapped(rising(20), 1 + k % 10, 11 + k % 10))}")
            for k in range(min(many, 20)):
                self.say(desk, "undo")
            left = many - 21
            if left < 0:
                self.refuse(desk, "show a", NoName)
            else:
                self.say(desk, "show a", text_of(swapped(rising(20), 1 + left % 10, 11 + left % 10)))
            for k in range(3):
                self.refuse(desk, "undo", TooMany)
            self.say(desk, "keep b 1")
            self.say(desk, "undo")
            self.refuse(desk, "undo", TooMany)

    def test_behind_a_refused_row(self):
        for row, error in [
            ("keep", NoRow), ("keep c", NoRow), ("keep c 2 2", NoText), ("lead a 0", NoText), ("lead c 1", NoName),
            ("lead a 3", NoWord), ("lead a 1 2 1 3", NoWord), ("drop c", NoName), ("back c d", NoName),
            ("undo undo", NoRow), ("hearth c a", NoName), ("drop A", NoRow),
        ]:
            desk = self.with_orders((2, 3, 1), (3, 1, 2))
            self.say(desk, "drop a")
            self.say(desk, "undo")
            self.refuse(desk, row, error)
            self.look_at_all(desk, {"a": (2, 3, 1), "b": (3, 1, 2)}, "abcd")
            self.say(desk, "undo")
            self.look_at_all(desk, {"a": (2, 3, 1)}, "abcd")
            self.say(desk, "undo")
            self.refuse(desk, "undo", TooMany)

    def test_undo_of_a_drop_beside_forty_names(self):
        desk = Desk()
        some = names(41)
        for name in some[:40]:
            self.say(desk, f"keep {name} 1")
        self.say(desk, f"drop {some[0]}")
        self.say(desk, f"keep {some[40]} 2 1")
        self.say(desk, "undo")
        self.say(desk, "undo")
        self.look_at_all(desk, dict.fromkeys(some[:40], (1,)), some)

    def test_drawn_rows(self):
        """Many rows by turns on two desks, against desks that remember all that was ever kept."""
        draw = random.Random(228)
        desks = [[Desk(), {}, []] for k in range(2)]
        some = names(44)
        met = {}
        for k in range(4000):
            held = draw.choice(desks)
            desk, kept, past = held
            row, due, held[1] = self.drawn_row(draw, some[:draw.choice([3, 44])], kept, past)
            met[due] = met.get(due, 0) + 1
            if due == "ok":
                self.say(desk, row)
            else:
                self.refuse(desk, row, due)
            if k % 50 == 0:
                self.look_at_all(desk, held[1], some)
        self.assertTrue(all(met.get(due, 0) > 20 for due in ["ok", NoName, NoWord, TooMany]), met)

    def drawn_row(self, draw, some, kept, past):
        """A row, what comes of it, and what is kept then; past has what was kept ahead of each row to undo."""
        kind = draw.choice(["keep"] * 5 + ["lead", "drop", "back", "back", "undo", "undo"])
        name, new = draw.choice(some), draw.choice(some)
        if kind == "undo":
            return ("undo", "ok", past.pop()) if past else ("undo", TooMany, kept)
        state = dict(kept)
        order = drawn_order(draw, draw.randint(1, 5))
        word = drawn_letters(draw, draw.randint(1, 3), 4)
        rows = {
            "keep": f"keep {name} {text_of(order)}", "lead": f"lead {name} {text_of(word)}", "drop": f"drop {name}",
            "back": f"back {name} {new}",
        }
        if kind != "keep" and name not in kept:
            return (rows[kind], NoName, kept)
        if kind == "keep":
            state[name] = order
        elif kind == "lead":
            if max(word) >= len(kept[name]):
                return (rows[kind], NoWord, kept)
            for k in word:
                state[name] = swapped(state[name], k, k + 1)
        elif kind == "drop":
            del state[name]
        else:
            state[new] = back_of(kept[name])
        if len(state) > 40:
            return (rows[kind], TooMany, kept)
        past.append(kept)
        del past[:-20]
        return (rows[kind], "ok", state)


class Refusing(Desks):

    def forms(self):
        """A good row of each form, for a desk with the orders a and b."""
        rows = ["keep a 2 1 3", "lead a 1 2", "back a c", "undo"]
        return rows + [f"{kind} a" for kind in ONE_NAME] + [f"{kind} a b" for kind in TWO_NAMES]

    def test_good_forms(self):
        for row in self.forms():
            self.with_orders((2, 1, 3), (1, 3, 2)).say(row)

    def test_rows_of_no_form(self):
        desk = self.with_orders((2, 1, 3), (1, 3, 2))
        for row in self.forms():
            words = row.split(" ")
            for wrong in [" " + row, row + " ", "  " + row, row + "  ", row.replace(" ", "  ", 1), row.upper(), row[1:]]:
                if wrong != row:
                    self.refuse(desk, wrong, NoRow)
            for at in range(len(words)):
                self.refuse(desk, " ".join(words[:at] + [""] + words[at:]), NoRow)
            if words[0] not in ["keep", "lead"]:
                self.refuse(desk, row + " a", NoRow)
                self.refuse(desk, row + " 1", NoRow)
            for many in range(min(len(words), 3)):
                if words[:many] != ["undo"]:
                    self.refuse(desk, " ".join(words[:many]), NoRow)
            places = {"undo": [], "keep": [1], "lead": [1]}.get(words[0], range(1, len(words)))
            for at in places:
                for wrong in [
                    "A", "aB", "a1", "1", "1a", "a-", "-", "a_b", "abcdefghi", "abcdefghijklmnopqrstuvwxyz", "a.", "~", "a,b",
                    "{", "`", "@", "[", "'a'", "a\"",
                ]:
                    self.refuse(desk, " ".join(words[:at] + [wrong] + words[at + 1:]), NoRow)
        for row in [
            "", " ", "  ", "a", "1", "keep", "undo undo", "undo a", "Undo", "undo ", " undo", "redo", "done", "keeps a 1", "-",
            "between", "hearths a b", "a keep 1", "keep 1 a", "2 1 3", "keep-a-1", "keep a", "lead a", "keep a ", "lead a ",
            "keep  1", "x" * 1560, " " * 1560, "keep " * 312, "show a b", "drop a b", "word a b", "plain a b", "tables a b",
            "below a", "between a", "kept a", "hearth a", "back a", "below a b c", "back a b c", "kept a b c", "hearth a b c",
        ]:
            self.refuse(desk, row, NoRow)
        self.look_at_all(desk, {"a": (2, 1, 3), "b": (1, 3, 2)}, "abc")

    def test_names_of_one_to_eight_letters(self):
        desk = Desk()
        for name in ["a", "z", "az", "abcdefgh", "zzzzzzzz", "show", "undo", "keep"]:
            self.say(desk, f"keep {name} 1 2")
            self.say(desk, f"show {name}", "1 2")

    def test_texts_that_are_none(self):
        desk = self.with_orders((2, 1, 3))
        for text in ["1 1", "0", "2", "1 3", "a", "-", "01", "2 1 -", "+1", "1 2 03", "(1)", text_of(rising(21)), "b c"]:
            for name in ["a", "new"]:
                self.refuse(desk, f"keep {name} {text}", NoText)
        for text in ["0", "20", "1 20", "1 0", "a", "- 1", "1 -", "01", "--", "+1", "-1", "1,2", " ".join(["1"] * 201)]:
            for name in ["a", "new"]:
                self.refuse(desk, f"lead {name} {text}", NoText)
        self.look_at_all(desk, {"a": (2, 1, 3)}, ["a", "new"])

    def test_names_by_which_nothing_is_kept(self):
        desk = self.with_orders((2, 1, 3), (1, 2))
        for kind in ONE_NAME:
            self.refuse(desk, f"{kind} c", NoName)
        for kind in TWO_NAMES:
            for one, other in [("a", "c"), ("c", "a"), ("c", "d"), ("c", "c")]:
                self.refuse(desk, f"{kind} {one} {other}", NoName)
        self.refuse(desk, "lead c 1", NoName)
        self.refuse(desk, "lead c 19", NoName)
        self.refuse(desk, "back c a", NoName)
        self.refuse(desk, "back c d", NoName)
        self.refuse(desk, "back c c", NoName)
        self.look_at_all(desk, {"a": (2, 1, 3), "b": (1, 2)}, "abcd")

    def test_unlike_numbers_of_things(self):
        sizes = [1, 2, 4, 5, 6, 10, 20]
        desk = self.with_orders(*[falling(n) for n in sizes])
        for one, other in itertools.permutations("abcdefg", 2):
            for kind in TWO_NAMES:
                self.refuse(desk, f"{kind} {one} {other}", NoPair)

    def test_numbers_that_the_order_has_no_place_for(self):
        for n in range(1, 20):
            desk = self.with_orders(falling(n))
            self.refuse(desk, f"lead a {n}", NoWord)
            self.refuse(desk, "lead a 19", NoWord)
            if n > 1:
                self.refuse(desk, f"lead a 1 {n}", NoWord)
                self.say(desk, f"lead a {n - 1} {n - 1}")
            self.say(desk, "show a", text_of(falling(n)))
        self.refuse(self.with_orders((1,)), "lead a 1", NoWord)
        self.say(self.with_orders((1,)), "lead a -")

    def test_too_many(self):
        for n in range(5, 21):
            desk = self.with_orders(rising(n), falling(n))
            self.refuse(desk, "hearth a b", TooMany)
            self.refuse(desk, "hearth a a", TooMany)
        for n in range(7, 21):
            desk = self.with_orders(rising(n), falling(n))
            self.refuse(desk, "between a b", TooMany)
            if n > 9:
                self.refuse(desk, "between b a", TooMany)
                self.refuse(desk, "between a a", TooMany)
        for n in range(6, 21):
            desk = self.with_orders(rising(n), falling(n))
            self.refuse(desk, "kept a b", TooMany)
            if n > 8:
                self.refuse(desk, "kept b a", TooMany)
                self.refuse(desk, "kept a a", TooMany)
        for n in [7, 8]:
            for one, other in beyond_pairs(n, 4):
                desk = self.with_orders(one, other)
                self.refuse(desk, "kept a b", TooMany)
                self.refuse(desk, "between a b", TooMany)

    def test_the_first_refusal_of_two(self):
        full = Desk()
        for name in names(40):
            self.say(full, f"keep {name} 2 1")
        for row, error in [
            ("keep New 2 2", NoRow), ("keep new 2  2", NoRow), ("keep new 2 2 ", NoRow), ("lead New 0", NoRow),
            ("keep new 2 2", NoText), ("lead new 0", NoText), ("lead new 20", NoText), ("lead new 19", NoName),
            ("back new old", NoName), ("back new New", NoRow), ("keep new 2 1", TooMany), ("undo new", NoRow),
        ]:
            self.refuse(full, row, error)
        desk = self.with_orders((2, 1), falling(20), falling(19), (1, 2, 3))
        for row, error in [
            ("between new b", NoName), ("between a new", NoName), ("hearth b new", NoName), ("kept new c", NoName),
            ("between b c", NoPair), ("kept b c", NoPair), ("hearth b c", NoPair), ("hearth a b", NoPair),
            ("hearth a New", NoRow), ("lead d 3 0", NoText), ("lead d 3 x", NoText), ("lead d 1 3", NoWord),
            ("below new New", NoRow), ("kept  b c", NoRow), ("lead d  3", NoRow), ("lead d 19 ", NoRow),
        ]:
            self.refuse(desk, row, error)
        for row in ["undo a", "undo  ", " undo"]:
            self.refuse(Desk(), row, NoRow)

    def test_two_desks_by_turns(self):
        one, other = Desk(), Desk()
        self.say(one, "keep a 2 1")
        self.refuse(other, "show a", NoName)
        self.refuse(other, "undo", TooMany)
        self.say(other, "keep a 1 2 3")
        self.say(one, "lead a 1")
        self.say(one, "show a", "1 2")
        self.say(other, "show a", "1 2 3")
        self.say(other, "undo")
        self.refuse(other, "show a", NoName)
        self.say(one, "undo")
        self.say(one, "show a", "2 1")
        self.say(one, "undo")
        self.refuse(one, "undo", TooMany)
        self.refuse(other, "undo", TooMany)

    def test_orders_are_written_as_told(self):
        for order in all_orders(4):
            self.say(self.with_orders(order), "show a", show_order(order))


if __name__ == "__main__":
    unittest.main()
