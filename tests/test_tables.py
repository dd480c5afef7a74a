"""Tables turned about one of their numbers: points 1 and 7 of the document."""

import copy
import random
import unittest
from fractions import Fraction

from tests.helper import HUGE, RefusalTest
from wholecut import tables as module
from wholecut.errors import NoTurn
from wholecut.tables import turned


def fractions(table, scale):
    return [[Fraction(number, scale) for number in line] for line in table]


def turned_fractions(table, row, column):
    """Point 7 word by word, over fractions."""
    about = table[row][column]
    told = []
    for place, line in enumerate(table):
        made = []
        for other, number in enumerate(line):
            if (place, other) == (row, column):
                made.append(1 / about)
            elif place == row:
                made.append(number / about)
            elif other == column:
                made.append(-number / about)
            else:
                made.append(number - table[place][column] * table[row][other] / about)
        told.append(made)
    return told


def random_table(chance, rows, columns, most):
    return [[chance.randint(-most, most) for _ in range(columns)] for _ in range(rows)]


class TurnedTest(unittest.TestCase):
    def turned(self, table, scale, row, column):
        """Turned, looked over against fractions; what was handed in is unchanged, and what is told is new."""
        before = copy.deepcopy(table)
        told = turned(table, scale, row, column)
        self.assertEqual(table, before)
        self.assertIs(type(told), tuple)
        made, made_scale = told
        self.assertIs(type(made_scale), int)
        self.assertGreaterEqual(made_scale, 1)
        self.assertIs(type(made), list)
        for line in made:
            self.assertIs(type(line), list)
            self.assertTrue(all(type(number) is int for number in line))
            self.assertFalse(any(line is old for old in table))
        self.assertEqual(len({id(line) for line in made}), len(table))
        wanted = turned_fractions(fractions(table, scale), row, column)
        self.assertEqual(fractions(made, made_scale), wanted)
        return made, made_scale

    def test_interface(self):
        self.assertEqual(turned.__module__, module.__name__)
        self.assertEqual(turned(table=[[1]], scale=1, row=0, column=0), ([[1]], 1))

    def test_one_number(self):
        for number in (1, 2, 7, -1, -2, -7, HUGE, -HUGE):
            made, scale = self.turned([[number]], 1, 0, 0)
            self.assertEqual(Fraction(made[0][0], scale), Fraction(1, number))

    def test_by_hand(self):
        made, scale = self.turned([[2, 3, 4], [5, 6, 7]], 1, 0, 0)
        self.assertEqual(fractions(made, scale), [[Fraction(1, 2), Fraction(3, 2), 2],
                                                  [Fraction(-5, 2), Fraction(-3, 2), -3]])
        made, scale = self.turned([[2, 3, 4], [5, 6, 7]], 1, 1, 2)
        self.assertEqual(fractions(made, scale), [[Fraction(-6, 7), Fraction(-3, 7), Fraction(-4, 7)],
                                                  [Fraction(5, 7), Fraction(6, 7), Fraction(1, 7)]])

    def test_about_a_number_below_nought(self):
        made, scale = self.turned([[-2, 3], [5, -6]], 1, 0, 0)
        self.assertEqual(fractions(made, scale), [[Fraction(-1, 2), Fraction(-3, 2)],
                                                  [Fraction(5, 2), Fraction(3, 2)]])
        made, scale = self.turned([[0, -3], [0, -3]], 1, 1, 1)
        self.assertEqual(fractions(made, scale), [[0, -1], [0, Fraction(-1, 3)]])

    def test_about_each_number_of_tables_of_each_size(self):
        chance = random.Random(71)
        for rows in range(1, 5):
            for columns in range(1, 5):
                for most in (1, 3, 50, 2000, HUGE):
                    table = random_table(chance, rows, columns, most)
                    for row in range(rows):
                        for column in range(columns):
                            if table[row][column] != 0:
                                self.turned(table, 1, row, column)

    def test_again_and_again(self):
        chance = random.Random(72)
        for _ in range(300):
            rows, columns = chance.randint(1, 4), chance.randint(1, 4)
            table, scale = random_table(chance, rows, columns, chance.choice((1, 2, 9, 50, HUGE))), 1
            for _ in range(8):
                row, column = chance.randrange(rows), chance.randrange(columns)
                if table[row][column] != 0:
                    table, scale = self.turned(table, scale, row, column)

    def test_twice_about_the_same_place_gives_the_first_table(self):
        chance = random.Random(73)
        for _ in range(100):
            table = random_table(chance, 3, 4, 20)
            table[1][2] = chance.choice((-9, -1, 1, 7))
            made, scale = self.turned(*self.turned(table, 1, 1, 2), 1, 2)
            self.assertEqual(fractions(made, scale), fractions(table, 1))

    def test_a_hundred_turnings_keep_to_numbers_of_few_figures(self):
        # Numbers that grow twice as long with each turning would fill the memory long before the hundredth.
        chance = random.Random(74)
        table, scale = random_table(chance, 4, 4, 50), 1
        for _ in range(100):
            places = [(row, column) for row in range(4) for column in range(4) if table[row][column] != 0]
            table, scale = self.turned(table, scale, *chance.choice(places))
        self.assertLess(max(abs(number) for line in table for number in line), 10 ** 12)
        self.assertLess(scale, 10 ** 12)

    def test_one_list_in_the_place_of_several_rows(self):
        line = [2, 3]
        made, scale = self.turned([line, line, line], 1, 1, 0)
        self.assertEqual(fractions(made, scale), [[-1, 0], [Fraction(1, 2), Fraction(3, 2)], [-1, 0]])

    def test_what_was_told_and_then_changed_is_told_anew(self):
        table = [[2, 3], [5, 7]]
        first, scale = turned(table, 1, 0, 0)
        kept = copy.deepcopy(first)
        first[0][0] = 99
        first.pop()
        self.assertEqual(turned(table, 1, 0, 0), (kept, scale))

    def test_what_was_told_stays(self):
        table = [[2, 3], [5, 7]]
        first = turned(table, 1, 0, 0)
        kept = copy.deepcopy(first)
        second = turned(*first, 1, 1)
        table[0][0] = 9
        turned(table, 1, 0, 0)
        second[0][0][0] = 77
        self.assertEqual(first, kept)

    def test_the_same_table_with_other_numbers(self):
        table = [[2, 3], [5, 7]]
        self.turned(table, 1, 0, 0)
        table[0][0], table[1] = -4, [0, 1]
        self.turned(table, 1, 0, 0)
        table.append([3, 3])
        self.turned(table, 1, 2, 1)


class NoTurnTest(RefusalTest):
    def bad(self, table, scale, row, column):
        before = copy.deepcopy(table)
        self.refused(NoTurn, turned, table, scale, row, column)
        self.assertEqual(table, before)

    def test_about_a_nought(self):
        self.bad([[0]], 1, 0, 0)
        for row in range(4):
            for column in range(4):
                table = [[1, -2, 3, 4] for _ in range(4)]
                table[row][column] = 0
                self.bad(table, 1, row, column)
        self.bad([[0, 0], [0, 0]], 1, 1, 0)

    def test_about_a_nought_that_came_of_a_turning(self):
        table, scale = turned([[2, 4], [3, 6]], 1, 0, 0)
        self.assertEqual(table[1][1], 0)
        self.bad(table, scale, 1, 1)

    def test_a_nought_elsewhere_is_turned(self):
        self.assertEqual(turned([[0, 1], [1, 0]], 1, 0, 1), ([[0, 1], [1, 0]], 1))


if __name__ == "__main__":
    unittest.main()
