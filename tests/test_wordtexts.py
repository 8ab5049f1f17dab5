import re
import unittest
from itertools import product

from samples import is_told_kind
from shearfloor.errors import NoText
from shearfloor.wordtexts import read_word, show_word

NUMBERS = (1, 2, 9, 10, 12, 99, 100, 101, 999, 1000, 1001, 9999)
STEPS = [("s", sign * number) for number in NUMBERS for sign in (1, -1)] + [("t", k) for k in (1, 2, 3)]
TEXTS = {
    (): ".",
    (("s", 1),): "s1",
    (("s", -1),): "s-1",
    (("s", 9999),): "s9999",
    (("s", -9999),): "s-9999",
    (("t", 1),): "t1",
    (("t", 3),): "t3",
    (("s", -12), ("t", 1), ("s", 3)): "s-12 t1 s3",
    (("s", 1000), ("s", -1000), ("t", 2), ("t", 2)): "s1000 s-1000 t2 t2",
    (("t", 3), ("t", 3), ("s", 10), ("s", 10)): "t3 t3 s10 s10",
    (("s", -1000), ("t", 1)) * 6: "s-1000 t1 s-1000 t1 s-1000 t1 s-1000 t1 s-1000 t1 s-1000 t1",
}


def row_refused(text):
    """The row of NoText, or None where the text is read."""
    try:
        read_word(text)
    except NoText as refusal:
        return refusal.row
    return None


def is_text_of_word(text):
    """A second look at the text."""
    step = "(s-?[1-9][0-9]{0,3}|t[123])"
    return re.fullmatch(rf"[.]|{step}( {step})*", text, re.ASCII) is not None


class ShownAndRead(unittest.TestCase):
    def assert_read_again(self, word):
        text = show_word(word)
        self.assertIs(type(text), str)
        self.assertTrue(is_text_of_word(text), text)
        told = read_word(text)
        self.assertEqual(told, word)
        self.assertTrue(is_told_kind(told))

    def test_texts(self):
        for word, text in TEXTS.items():
            self.assertEqual(show_word(word), text)
            self.assertEqual(read_word(text), word)
            self.assertTrue(is_told_kind(read_word(text)))

    def test_words_of_one_and_two_steps(self):
        for step in STEPS:
            self.assert_read_again((step,))
        for word in product(STEPS, repeat=2):
            self.assert_read_again(word)

    def test_words_of_many_steps(self):
        for count in (3, 12, 30, 60):
            for first in range(len(STEPS)):
                self.assert_read_again(tuple(STEPS[(first + 7 * k) % len(STEPS)] for k in range(count)))
                self.assert_read_again((STEPS[first],) * count)

    def test_each_word_has_a_text_of_its_own(self):
        words = [()] + [word for count in (1, 2) for word in product(STEPS, repeat=count)]
        self.assertEqual(len({show_word(word) for word in words}), len(words))

    def test_the_same_when_asked_again(self):
        word = (("s", -12), ("s", 3), ("t", 1))
        self.assertEqual(show_word(word), show_word(word))
        self.assertEqual(read_word("s-12 s3 t1"), read_word("s-12 s3 t1"))
        self.assertEqual(word, (("s", -12), ("s", 3), ("t", 1)))


class Refused(unittest.TestCase):
    def assert_refused(self, texts):
        for text in texts:
            self.assertEqual(row_refused(text), 0, repr(text))
            self.assertIs(type(row_refused(text)), int)
            self.assertFalse(is_text_of_word(text), repr(text))

    def test_without_signs(self):
        self.assert_refused(("",))

    def test_blanks_and_line_feeds(self):
        self.assert_refused((
            " ", "  ", "s1  t1", " s1", "s1 ", " .", ". ", "s1 t1 ", "s 1", "s- 1", "\n", "s1\n", "\ns1", "s1\nt1",
            "s1 \nt1", ".\n", "\n.", "s1\tt1", "s1\r", "s\n1", "t1\n",
        ))

    def test_noughts_ahead_and_by_themselves(self):
        self.assert_refused(("s01", "s-01", "s00", "s0001", "s0", "s-0", "s-00", "t0", "t01", "t00", "t03", "s1 s0 t1"))

    def test_quarters_that_are_none(self):
        self.assert_refused(("t4", "t-1", "t-3", "t5", "t9", "t10", "t11", "t12", "t100", "t+1", "t--1", "t1 t4"))

    def test_other_signs(self):
        self.assert_refused((
            "s+1", "s--1", "s-+1", "s1-", "s-", "t-", "s1.", "s1.0", "s1,t1", "s1;t1", "s1_0", "s1e2", "s0x1", "s~",
            "s1-2", "s/", "s:", "t:", "t/", "s(1)",
        ))

    def test_five_figures(self):
        self.assert_refused(("s10000", "s-10000", "s12345", "s-99999", "s00001", "s" + "9" * 300, "t1 s10000"))

    def test_letters(self):
        self.assert_refused((
            "s", "t", "1", "-1", "12", "S1", "T1", "r1", "u1", "x1", "ss1", "st1", "1s", "s1t1", "s1s1", "t1s", "s1 t",
            "s t1", "s1 2", "a", "word", "ts1", "t1t", "-s1",
        ))

    def test_the_dot_beside_steps(self):
        self.assert_refused((". s1", "s1 .", ". .", "..", ".s1", "s1.", "s.", "s1 . t1", "t."))

    def test_figures_of_other_scripts(self):
        for figure in "\u0661\u00b2\u00b9\u06f3\u0967\uff11\u2460\u2081\U0001d7cf\u4e00":
            self.assert_refused(("s" + figure, "t" + figure, "s-" + figure, "s1" + figure, "s" + figure + "1"))

    def test_all_texts_one_sign_away(self):
        signs = "\n 0129-+.,sStTx~"
        for text in (".", "s1", "t3", "s-12 t1 s3", "s1000 t2 s-9999"):
            for place in range(len(text) + 1):
                others = [text[:place] + text[place + 1:]]
                others += [text[:place] + sign + text[place:] for sign in signs]
                others += [text[:place] + sign + text[place + 1:] for sign in signs]
                for other in others:
                    if is_text_of_word(other):
                        self.assertEqual(show_word(read_word(other)), other)
                    else:
                        self.assertEqual(row_refused(other), 0, repr(other))

    def test_all_short_texts(self):
        for count in (0, 1, 2, 3, 4):
            for signs in product("st014- .", repeat=count):
                text = "".join(signs)
                self.assertEqual(row_refused(text), None if is_text_of_word(text) else 0, repr(text))


if __name__ == "__main__":
    unittest.main()
