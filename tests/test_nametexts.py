import re
import unittest
from itertools import product

from flagfloors.errors import NotText
from flagfloors.names import check_name, normal_name
from flagfloors.nametexts import read_name, written_name
from flagfloors.sides import PLANE_NAMES

ENTRIES = r"(?:[2-9]|\([1-9][0-9]{1,3}\))*"
WITH_O = re.compile(rf"o{{0,60}}{ENTRIES}(?:\*{ENTRIES})*")
WITH_X = re.compile(rf"{ENTRIES}(?:\*{ENTRIES})*x{{0,180}}")
ENDS = ("", "2", ")", "0)", "10)")
SIGNS = "0123459ox*() -+O\n\u00b2\u0663"


def is_whole(text):
    if text == "1":
        return True
    return text != "" and bool(WITH_O.fullmatch(text) or WITH_X.fullmatch(text))


def plain_place(text):
    """The length of the longest beginning that can go on, None for a whole text."""
    if is_whole(text):
        return None
    place = 0
    while place < len(text) and any(is_whole(text[:place + 1] + end) for end in ENDS):
        place += 1
    return place


TEXTS = {
    "1": (0, (), (), 0),
    "o": (1, (), (), 0),
    "ooo": (3, (), (), 0),
    "x": (0, (), (), 1),
    "xx": (0, (), (), 2),
    "*": (0, (), ((),), 0),
    "***": (0, (), ((), (), ()), 0),
    "*x": (0, (), ((),), 1),
    "236": (0, (2, 3, 6), (), 0),
    "*236": (0, (), ((2, 3, 6),), 0),
    "23*45": (0, (2, 3), ((4, 5),), 0),
    "o23**45": (1, (2, 3), ((), (4, 5)), 0),
    "2(10)(9999)*2(12)*3x": (0, (2, 10, 9999), ((2, 12), (3,)), 1),
    "(10)": (0, (10,), (), 0),
    "*(100)": (0, (), ((100,),), 0),
}


class Written(unittest.TestCase):
    def test_there_and_back(self):
        for text, name in TEXTS.items():
            self.assertIs(check_name(name), name)
            self.assertEqual(written_name(name), text)
            self.assertEqual(read_name(text), name)

    def test_plane_names(self):
        texts = ["xx", "*x", "**", "*2222", "*236", "*244", "*333", "2*22", "22x", "22*", "2222",
                 "236", "244", "3*3", "333", "4*2", "o"]
        self.assertEqual([written_name(name) for name in PLANE_NAMES], texts)
        self.assertEqual(tuple(read_name(text) for text in texts), PLANE_NAMES)

    def test_many_names(self):
        rows = [(), (2,), (9,), (10, 9), (99, 100, 2), (999, 1000, 9999, 2)]
        for turns, first, second in product(rows, repeat=3):
            for handles, crosscaps in ((0, 0), (60, 0), (0, 180), (2, 0), (0, 1)):
                name = normal_name(handles, turns, (first, second), crosscaps)
                text = written_name(name)
                self.assertTrue(is_whole(text))
                self.assertEqual(read_name(text), name)

    def test_entries_in_any_sequence_and_borders_begun_elsewhere(self):
        for text in ("632", "326", "236", "263"):
            self.assertEqual(read_name(text), (0, (2, 3, 6), (), 0))
        for text in ("*234*253", "*342*325", "*253*234", "*532*423", "*432*352", "*253*342"):
            self.assertEqual(read_name(text), normal_name(0, (), ((2, 3, 4), (2, 5, 3)), 0))
        self.assertEqual(read_name("*432*325x"), (0, (), ((2, 3, 4), (2, 3, 5)), 1))
        self.assertEqual(read_name("(9999)2(10)"), (0, (2, 10, 9999), (), 0))


class Places(unittest.TestCase):
    def refused(self, text, place):
        for _ in range(2):
            with self.assertRaises(NotText) as caught:
                read_name(text)
            self.assertEqual(caught.exception.place, place, repr(text))

    def test_empty(self):
        self.refused("", 0)

    def test_1(self):
        self.refused("11", 1)
        self.refused("1o", 1)
        self.refused("1 ", 1)
        self.refused("21", 1)
        self.refused("o1", 1)
        self.refused("*1", 1)

    def test_unknown_signs(self):
        self.refused("a", 0)
        self.refused("0", 0)
        self.refused(" 2", 0)
        self.refused("2 3", 1)
        self.refused("23\n", 2)
        self.refused("*2\u0663", 2)
        self.refused("\u00b2", 0)
        self.refused("O", 0)
        self.refused("-2", 0)

    def test_parentheses(self):
        self.refused("(", 1)
        self.refused("()", 1)
        self.refused("(5)", 2)
        self.refused("(1)", 2)
        self.refused("(05)", 1)
        self.refused("(012)", 1)
        self.refused("(12345)", 5)
        self.refused("(10000)", 5)
        self.refused("2(1x", 3)
        self.refused("(1(", 2)
        self.refused("(12", 3)
        self.refused("(1234", 5)
        self.refused("*(1", 3)
        self.refused("12)", 1)
        self.refused("2)", 1)
        self.refused("((12))", 1)

    def test_60_and_61_letters_o(self):
        self.assertEqual(read_name("o" * 60), (60, (), (), 0))
        self.assertEqual(read_name("o" * 60 + "2"), (60, (2,), (), 0))
        self.refused("o" * 61, 60)
        self.refused("o" * 200 + "?", 60)

    def test_180_and_181_letters_x(self):
        self.assertEqual(read_name("x" * 180), (0, (), (), 180))
        self.assertEqual(read_name("2*3" + "x" * 180), (0, (2,), ((3,),), 180))
        self.refused("x" * 181, 180)
        self.refused("2*" + "x" * 181, 182)

    def test_both_letters(self):
        self.refused("ox", 1)
        self.refused("o2*x", 3)
        self.refused("xo", 1)

    def test_parts_in_another_sequence(self):
        self.refused("2o", 1)
        self.refused("*o", 1)
        self.refused("x2", 1)
        self.refused("x*", 1)
        self.refused("x(12)", 1)

    def test_a_sign_put_in_taken_out_or_put_otherwise(self):
        texts = list(TEXTS) + ["oo2(345)6*(78)9**", "(1234)5*6(789)*xx"]
        for text in texts:
            for k in range(len(text) + 1):
                self.read_or_refused(text[:k])
                self.read_or_refused(text[:k] + text[k + 1:])
                for sign in SIGNS:
                    self.read_or_refused(text[:k] + sign + text[k:])
                    self.read_or_refused(text[:k] + sign + text[k + 1:])

    def test_all_short_texts(self):
        for many in range(5):
            for signs in product("0123ox*()", repeat=many):
                self.read_or_refused("".join(signs))

    def read_or_refused(self, text):
        place = plain_place(text)
        if place is not None:
            self.refused(text, place)
        else:
            name = read_name(text)
            self.assertIs(check_name(name), name)
            self.assertEqual(read_name(written_name(name)), name)
