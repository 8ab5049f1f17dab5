import unittest
from itertools import product

from samples import is_told_kind
from shearfloor.tables import times, undone
from shearfloor.words import back_word, made_plain, put_together, table_of

STEPS = (("s", 1), ("s", -1), ("s", 2), ("t", 1), ("t", 2), ("t", 3))
LONG = (("s", 1000), ("t", 1), ("s", -1000), ("t", 3)) * 3


def small_words():
    return [word for count in (0, 1, 2, 3, 4) for word in product(STEPS, repeat=count)]


def plain_from_the_end(word):
    """A second way to a plain word: the last two neighbours of one letter first, till there are none."""
    steps = list(word)
    while True:
        pairs = [k for k in range(len(steps) - 1) if steps[k][0] == steps[k + 1][0]]
        if not pairs:
            return tuple(steps)
        k = pairs[-1]
        letter = steps[k][0]
        number = steps[k][1] + steps[k + 1][1]
        if letter == "t":
            number %= 4
        steps[k:k + 2] = [(letter, number)] if number else []


class TableOf(unittest.TestCase):
    def test_no_steps(self):
        self.assertEqual(table_of(()), (1, 0, 0, 1))

    def test_each_step(self):
        for k in (1, -1, 2, 7, 1000, -1000):
            self.assertEqual(table_of((("s", k),)), (1, k, 0, 1))
        self.assertEqual(table_of((("t", 1),)), (0, -1, 1, 0))
        self.assertEqual(table_of((("t", 2),)), (-1, 0, 0, -1))
        self.assertEqual(table_of((("t", 3),)), (0, 1, -1, 0))

    def test_the_last_steps_table_times_that_of_the_steps_ahead(self):
        self.assertEqual(table_of((("s", 2), ("t", 1))), (0, -1, 1, 2))
        self.assertEqual(table_of((("t", 1), ("s", 2))), (2, -1, 1, 0))
        for word in small_words():
            if len(word) > 1:
                self.assertEqual(table_of(word), times(table_of(word[-1:]), table_of(word[:-1])))

    def test_twelve_steps(self):
        table = (1, 0, 0, 1)
        for step in LONG:
            table = times(table_of((step,)), table)
        self.assertEqual(table_of(LONG), table)
        self.assertEqual(table[0] * table[3] - table[1] * table[2], 1)


class MadePlain(unittest.TestCase):
    def test_two_neighbours_of_one_letter(self):
        self.assertEqual(made_plain((("s", 2), ("s", 3))), (("s", 5),))
        self.assertEqual(made_plain((("s", 2), ("s", -5))), (("s", -3),))
        self.assertEqual(made_plain((("t", 1), ("t", 2))), (("t", 3),))

    def test_t_by_the_rest_of_4(self):
        self.assertEqual(made_plain((("t", 3), ("t", 2))), (("t", 1),))
        self.assertEqual(made_plain((("t", 3), ("t", 3))), (("t", 2),))
        self.assertEqual(made_plain((("t", 3),) * 5), (("t", 3),))
        self.assertEqual(made_plain((("s", 3), ("s", 2))), (("s", 5),))

    def test_noughts_are_left_out(self):
        self.assertEqual(made_plain((("s", 4), ("s", -4))), ())
        self.assertEqual(made_plain((("t", 1), ("t", 3))), ())
        self.assertEqual(made_plain((("t", 2), ("t", 2))), ())
        self.assertEqual(made_plain((("t", 1),) * 4), ())
        self.assertEqual(made_plain((("s", 4), ("s", -4), ("s", 6))), (("s", 6),))

    def test_putting_two_together_makes_two_others_neighbours(self):
        self.assertEqual(made_plain((("s", 1), ("t", 2), ("t", 2), ("s", 5))), (("s", 6),))
        self.assertEqual(made_plain((("t", 3), ("s", 7), ("s", -7), ("t", 3))), (("t", 2),))
        word = (("s", 1), ("t", 1), ("s", 2), ("t", 3), ("t", 1), ("s", -2), ("t", 3), ("s", -1))
        self.assertEqual(made_plain(word), ())
        self.assertEqual(made_plain((("t", 2),) + word + (("s", 9),)), (("t", 2), ("s", 9)))

    def test_plain_words_stay(self):
        for word in ((), (("s", 1),), (("t", 3),), (("s", 1), ("t", 1), ("s", 1), ("t", 1)), LONG):
            self.assertEqual(made_plain(word), word)

    def test_in_whatever_order_the_same_comes(self):
        for word in small_words():
            told = made_plain(word)
            self.assertEqual(told, plain_from_the_end(word))
            self.assertEqual(table_of(told), table_of(word))
            self.assertEqual(made_plain(told), told)


class PutTogether(unittest.TestCase):
    def test_by_hand(self):
        self.assertEqual(put_together((), ()), ())
        self.assertEqual(put_together((("s", 1),), (("t", 1),)), (("s", 1), ("t", 1)))
        self.assertEqual(put_together((("t", 1),), (("s", 1),)), (("t", 1), ("s", 1)))
        self.assertEqual(put_together((("t", 1), ("s", 2)), (("s", 3), ("t", 2))), (("t", 1), ("s", 5), ("t", 2)))
        self.assertEqual(put_together((("t", 1), ("s", 2)), (("s", -2), ("t", 3))), ())

    def test_words_that_arent_plain_are_made_so(self):
        self.assertEqual(put_together((("s", 1), ("s", 1)), ()), (("s", 2),))
        self.assertEqual(put_together((), (("t", 3), ("t", 3))), (("t", 2),))

    def test_the_first_ones_steps_and_behind_them_the_others(self):
        words = small_words()[:43]
        for one in words:
            for other in words:
                told = put_together(one, other)
                self.assertEqual(told, plain_from_the_end(one + other))
                self.assertEqual(table_of(told), times(table_of(other), table_of(one)))

    def test_with_the_word_turned_back(self):
        for word in small_words():
            self.assertEqual(put_together(word, back_word(word)), ())


class BackWord(unittest.TestCase):
    def test_by_hand(self):
        self.assertEqual(back_word(()), ())
        self.assertEqual(back_word((("s", 3),)), (("s", -3),))
        self.assertEqual(back_word((("s", -1000),)), (("s", 1000),))
        self.assertEqual([back_word((("t", k),)) for k in (1, 2, 3)], [(("t", 3),), (("t", 2),), (("t", 1),)])
        self.assertEqual(back_word((("s", 2), ("t", 1), ("s", -5))), (("s", 5), ("t", 3), ("s", -2)))

    def test_it_isnt_made_plain(self):
        self.assertEqual(back_word((("s", 1), ("s", 2))), (("s", -2), ("s", -1)))
        self.assertEqual(back_word((("t", 1), ("t", 3))), (("t", 1), ("t", 3)))

    def test_its_table_is_the_first_ones_undone(self):
        for word in small_words() + [LONG]:
            self.assertEqual(table_of(back_word(word)), undone(table_of(word)))
            self.assertEqual(back_word(back_word(word)), word)


class Told(unittest.TestCase):
    def test_told_in_tuples_and_the_same_when_asked_again(self):
        word = (("s", 1), ("s", 2), ("t", 3))
        first = (table_of(word), made_plain(word), put_together(word, word), back_word(word))
        again = (table_of(word), made_plain(word), put_together(word, word), back_word(word))
        self.assertEqual(first, again)
        self.assertTrue(is_told_kind(first))
        self.assertEqual(word, (("s", 1), ("s", 2), ("t", 3)))


if __name__ == "__main__":
    unittest.main()
