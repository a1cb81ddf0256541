import re
import unittest

import samples
from flagfloors.errors import NotPattern, NotText
from flagfloors.orders import reordered
from flagfloors.texts import read_pattern, written

NUMBER = r"(?:0|[1-9][0-9]{0,3})"
GROUP = f"{NUMBER}(?: {NUMBER})*"
WHOLE = re.compile(f"{GROUP}(?:; {GROUP}){{4}}")
ENDS = [first + "; 0" * many for first in ("", "0", " 0") for many in range(5)]
SIGNS = "0159 ;,-+.\n\tx\u00b2\u0663"


def can_go_on(text):
    """Whether some text of the form begins with a text: some end among a few will do."""
    return any(WHOLE.fullmatch(text + end) for end in ENDS)


def plain_place(text):
    """The length of the longest beginning that can go on, None for a whole text."""
    if WHOLE.fullmatch(text):
        return None
    place = 0
    while place < len(text) and can_go_on(text[:place + 1]):
        place += 1
    return place


class Written(unittest.TestCase):
    def test_the_cube(self):
        self.assertEqual(written(samples.CUBE), "0; 0; 0; 4; 3")
        self.assertEqual(read_pattern("0; 0; 0; 4; 3"), samples.CUBE)

    def test_several_flags(self):
        self.assertEqual(written(samples.SWAP_0), "1 0; 0 1; 0 1; 4 4; 3 3")

    def test_there_and_back(self):
        great = reordered(reordered(samples.CUBE, "tile", 0, 9999), "corner", 0, 9999)
        self.assertEqual(written(great), "0; 0; 0; 9999; 9999")
        for pattern in samples.small_patterns(4) + (
            samples.TORUS, great, samples.ring(120), samples.ring(120, 9960), samples.path(25),
        ):
            text = written(pattern)
            self.assertTrue(WHOLE.fullmatch(text))
            self.assertEqual(read_pattern(text), pattern)
            self.assertEqual(read_pattern(text), pattern)


class Places(unittest.TestCase):
    def refused(self, text, place):
        for _ in range(2):
            with self.assertRaises(NotText) as caught:
                read_pattern(text)
            self.assertEqual(caught.exception.place, place, repr(text))

    def test_empty_and_cut_off(self):
        self.refused("", 0)
        text = written(samples.ring(6, 12))
        for k in range(len(text)):
            if not WHOLE.fullmatch(text[:k]):
                self.refused(text[:k], k)

    def test_leading_zeros(self):
        self.refused("00; 0; 0; 4; 3", 1)
        self.refused("0; 0; 0; 04; 3", 10)
        self.refused("0; 0; 0; 4; 03", 13)

    def test_two_blanks(self):
        self.refused("1  0; 0 1; 0 1; 4 4; 3 3", 2)
        self.refused("0;  0; 0; 4; 3", 3)
        self.refused("0;0; 0; 4; 3", 2)
        self.refused("0 ; 0; 0; 4; 3", 2)
        self.refused(" 0; 0; 0; 4; 3", 0)

    def test_four_and_five_digits(self):
        self.assertEqual(read_pattern("0; 0; 0; 9999; 3")[3], (9999,))
        self.refused("0; 0; 0; 10000; 3", 13)
        self.refused("0; 0; 0; 4; 12345", 16)

    def test_four_and_six_groups(self):
        self.refused("0; 0; 0; 4", 10)
        self.refused("0; 0; 0; 4; ", 12)
        self.refused("0; 0; 0; 4;", 11)
        self.refused("0; 0; 0; 4; 3; 3", 13)
        self.refused("0; 0; 0; 4; 3;", 13)

    def test_a_group_without_integers(self):
        self.refused("; 0; 0; 4; 3", 0)
        self.refused("0; ; 0; 4; 3", 3)

    def test_behind_the_end(self):
        self.refused("0; 0; 0; 4; 3 ", 14)
        self.refused("0; 0; 0; 4; 3\n", 13)
        self.refused("0; 0; 0; 4; 3.", 13)

    def test_other_signs(self):
        self.refused("-1; 0; 0; 4; 3", 0)
        self.refused("+1; 0; 0; 4; 3", 0)
        self.refused("0; 0; 0; \u0664; 3", 9)
        self.refused("0; 0; 0; 4\u00b2; 3", 10)
        self.refused("0; 0; 0; 4;\u00a03", 11)
        self.refused("cube", 0)

    def test_a_sign_put_in_taken_out_or_put_otherwise(self):
        for text in ("0; 0; 0; 4; 3", "1 0; 0 1; 0 1; 4 4; 3 3", "0; 0; 0; 9990; 10",
                     written(samples.ring(2, 120))):
            for k in range(len(text) + 1):
                changed = [text[:k] + text[k + 1:]]
                changed += [text[:k] + sign + text[k:] for sign in SIGNS]
                changed += [text[:k] + sign + text[k + 1:] for sign in SIGNS]
                for other in changed:
                    place = plain_place(other)
                    if place is not None:
                        self.refused(other, place)
                    else:
                        self.reads_or_breaks_a_rule(other)

    def reads_or_breaks_a_rule(self, text):
        try:
            self.assertEqual(written(read_pattern(text)), text)
        except NotPattern:
            pass


class Rules(unittest.TestCase):
    def refused(self, text, rule, place):
        for _ in range(2):
            with self.assertRaises(NotPattern) as caught:
                read_pattern(text)
            self.assertEqual((caught.exception.rule, caught.exception.place), (rule, place))

    def test_rules_behind_the_form_of_the_text(self):
        self.refused("0 0; 0; 0; 4; 3", "form", -1)
        self.refused("0; 0; 0; 4; 3 3", "form", -1)
        self.refused("1; 0; 0; 4; 3", "change", 0)
        self.refused("1 0 2; 0 2 1; 0 1 9999; 3 3 3; 2 2 2", "change", 2)
        self.refused("1 0 3 2; 0 1 2 3; 0 2 1 3; 2 2 2 2; 2 2 2 2", "square", 0)
        self.refused("0; 0; 0; 0; 3", "tile", 0)
        self.refused("1 0; 0 1; 0 1; 3 3; 3 3", "tile", 0)
        self.refused("0; 0; 0; 4; 0", "corner", 0)
        self.refused("1 0; 0 1; 0 1; 2 2; 3 0", "corner", 1)
        self.refused("0 1; 0 1; 0 1; 4 4; 3 3", "whole", 1)

    def test_241_flags(self):
        still = " ".join(str(k) for k in range(241))
        ones = " ".join(["1"] * 241)
        self.refused("; ".join([still, still, still, ones, ones]), "form", -1)
