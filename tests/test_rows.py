import copy
import random
import unittest

from bracketnumbers.errors import BracketError, NoPlace, NoRow
from bracketnumbers.rows import backward, depth, is_whole, partner, turn_of
from samples import (
    LARGEST, all_whole_rows, long_texts, other_things, sample_rows, shrinks_to_nothing, shuffled_row, spoilt,
    unwhole_texts,
)

ROWS = sample_rows()


def surplus(text):
    return text.count("(") - text.count(")")


class IsWhole(unittest.TestCase):
    def test_whole_rows(self):
        for row in ROWS:
            self.assertIs(is_whole(row), True, row)

    def test_the_empty_row(self):
        self.assertIs(is_whole(""), True)

    def test_the_longest_row(self):
        self.assertIs(is_whole("()" * 60), True)
        self.assertIs(is_whole("(" * 60 + ")" * 60), True)

    def test_rows_with_one_sign_spoilt(self):
        for row in ROWS:
            for text in spoilt(row):
                self.assertIs(is_whole(text), False, text)

    def test_every_short_text_of_brackets(self):
        for length in range(11):
            for bits in range(2 ** length):
                text = "".join("()"[bits >> place & 1] for place in range(length))
                self.assertIs(is_whole(text), shrinks_to_nothing(text), text)

    def test_as_many_of_both_in_any_order(self):
        source = random.Random(11)
        for size in range(1, LARGEST + 1):
            text = shuffled_row(source, size, size)
            self.assertIs(is_whole(text), shrinks_to_nothing(text), text)

    def test_a_text_of_more_than_120_signs_is_no_row(self):
        for text in long_texts():
            self.assertIs(is_whole(text), False, text)

    def test_other_texts(self):
        for text in unwhole_texts():
            self.assertIs(is_whole(text), False, text)

    def test_other_things_which_stay_as_they_are(self):
        for thing in other_things():
            before = copy.deepcopy(thing)
            self.assertIs(is_whole(thing), False)
            self.assertIs(is_whole(thing), False)
            self.assertEqual(thing, before)


class Depth(unittest.TestCase):
    def test_is_the_greatest_surplus_of_a_head(self):
        for row in ROWS:
            expected = max(surplus(row[:end]) for end in range(len(row) + 1))
            self.assertEqual(depth(row), expected, row)
            self.assertEqual(depth(row), expected, row)

    def test_edges(self):
        self.assertEqual(depth(""), 0)
        self.assertEqual(depth("()"), 1)
        self.assertEqual(depth("()" * 60), 1)
        self.assertEqual(depth("(" * 60 + ")" * 60), 60)
        self.assertEqual(depth("()(())()"), 2)


class Partner(unittest.TestCase):
    def test_of_every_place(self):
        for row in ROWS:
            for place, sign in enumerate(row):
                mate = partner(row, place)
                first, last = (place, mate) if sign == "(" else (mate, place)
                self.assertTrue(0 <= first < last < len(row), (row, place, mate))
                self.assertEqual(row[first] + row[last], "()")
                self.assertTrue(shrinks_to_nothing(row[first + 1:last]), (row, place, mate))
                self.assertEqual(partner(row, mate), place)

    def test_plainly(self):
        self.assertEqual([partner("(()())()", place) for place in range(8)], [5, 2, 1, 4, 3, 0, 7, 6])

    def test_no_place(self):
        for row in ROWS:
            length = len(row)
            far = 10 ** 5000
            for place in (-1, -2, -length, -length - 1, -far, length, length + 1, 2 * length + 5, far):
                if 0 <= place < length:
                    continue
                for taken in (NoPlace, BracketError, ValueError):
                    with self.assertRaises(taken):
                        partner(row, place)

    def test_the_empty_row_has_no_place(self):
        with self.assertRaises(NoPlace) as held:
            partner("", 0)
        self.assertNotIsInstance(held.exception, NoRow)


class Backward(unittest.TestCase):
    def test_edges(self):
        self.assertEqual(backward(""), "")
        self.assertEqual(backward("("), ")")
        self.assertEqual(backward("(())()"), "()(())")
        self.assertEqual(backward("))("), ")((")

    def test_is_the_row_from_behind_turned_about(self):
        source = random.Random(5)
        for row in ROWS + [shuffled_row(source, 70 - k, k) for k in range(71)]:
            turned = backward(row)
            self.assertEqual(len(turned), len(row))
            for place, sign in enumerate(row):
                self.assertEqual(turned[len(row) - 1 - place], ")" if sign == "(" else "(")
            self.assertEqual(backward(turned), row)

    def test_of_a_whole_row_is_whole_and_as_deep(self):
        for row in ROWS:
            self.assertIs(is_whole(backward(row)), True, row)
            self.assertEqual(depth(backward(row)), depth(row), row)

    def test_of_small_rows_goes_to_all_of_their_size(self):
        for size in range(7):
            rows = all_whole_rows(size)
            self.assertEqual(sorted(backward(row) for row in rows), sorted(rows))


def turns_that_fit(row):
    turned = [row[place:] + row[:place] for place in range(len(row))]
    return [place for place, text in enumerate(turned) if text[0] == "(" and shrinks_to_nothing(text[1:])]


def rows_with_one_more():
    source = random.Random(6)
    rows = ["(", "(((" + "))", "))" + "(((", "()(", "(()", ")(("]
    rows += [shuffled_row(source, size + 1, size) for size in range(LARGEST) for turn in range(3)]
    for row in ROWS:
        if len(row) < 2 * LARGEST:
            place = source.randrange(len(row) + 1)
            rows += [row[:place] + "(" + row[place:], "(" + row, row + "("]
    return rows


class TurnOf(unittest.TestCase):
    def test_just_one_turn_fits_and_it_is_told(self):
        for row in rows_with_one_more():
            self.assertEqual([turn_of(row)], turns_that_fit(row), row)
            self.assertEqual([turn_of(row)], turns_that_fit(row), row)

    def test_every_small_row(self):
        for size in range(6):
            length = 2 * size + 1
            for bits in range(2 ** length):
                row = "".join("()"[bits >> place & 1] for place in range(length))
                if surplus(row) == 1:
                    self.assertEqual([turn_of(row)], turns_that_fit(row), row)

    def test_turned_by_one_it_is_one_less_round(self):
        for row in rows_with_one_more():
            self.assertEqual(turn_of(row[1:] + row[0]), (turn_of(row) - 1) % len(row), row)

    def test_nothing_is_turned_where_the_row_already_fits(self):
        for row in ROWS:
            self.assertEqual(turn_of("(" + row), 0)
