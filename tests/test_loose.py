"""Boxes loosened: points 1 and 8 of the document."""

import copy
import random
import unittest
from fractions import Fraction

from tests.helper import (NO_LISTS, NO_NUMBERS, WORDS, RefusalTest, at, best_gain, changed, fields, lesser_box,
                          own_facts, own_sum, problems, shows_none, three, whole)
from wholecut import loose as module
from wholecut.errors import BadBox
from wholecut.loose import loose
from wholecut.problems import Problem


class LooseTest(RefusalTest):
    def told(self, problem, box):
        """What is told of the box, looked over by point 8; what was handed in is unchanged."""
        before = fields(problem), copy.deepcopy(box)
        told = loose(problem, box)
        self.assertEqual((fields(problem), box), before)
        self.assertIs(type(told), tuple)
        self.assertIn(told[0], ("none", "most"))
        if told[0] == "none":
            self.assertEqual(len(told), 2)
            self.assertTrue(shows_none(problem, box, told[1]), (before, told))
        else:
            self.most(problem, box, told)
        return told

    def most(self, problem, box, told):
        _, spot, weights, scale = told
        self.assertIs(type(spot), tuple)
        numbers, divisor = spot
        self.assertEqual((type(numbers), len(numbers)), (list, len(problem.tops)))
        self.assertTrue(all(type(number) is int for number in numbers + [divisor, scale]))
        self.assertGreaterEqual(divisor, 1)
        self.assertGreaterEqual(scale, 1)
        where = [Fraction(number, divisor) for number in numbers]
        for fact, bound in own_facts(problem, box):
            self.assertLessEqual(at(fact, where), bound, (fields(problem), box, told))
        total, bound = own_sum(problem, box, weights)
        self.assertEqual(total, [scale * number for number in problem.gain])
        self.assertEqual(Fraction(bound, scale), at(problem.gain, where))

    def gain(self, problem, box):
        """What the spot gains, or None where nothing meets the facts."""
        told = self.told(problem, box)
        return None if told[0] == "none" else Fraction(at(problem.gain, told[1][0]), told[1][1])


class ToldTest(LooseTest):
    def test_interface(self):
        self.assertEqual(loose.__module__, module.__name__)
        self.assertEqual(loose(problem=Problem([1], [], [0]), box=[(0, 1)])[0], "most")

    def test_many_problems(self):
        chance = random.Random(81)
        for problem in problems(82, 1500, 20):
            self.told(problem, whole(problem))
            for _ in range(2):
                self.told(problem, lesser_box(chance, problem))
            point = [chance.randint(0, top) for top in problem.tops]
            self.told(problem, [(number, number) for number in point])

    def test_no_point_of_the_box_gains_more(self):
        chance = random.Random(83)
        for problem in problems(84, 400, 4):
            for box in (whole(problem), lesser_box(chance, problem)):
                told, best = self.gain(problem, box), best_gain(problem, box)
                if best is not None:
                    self.assertIsNotNone(told)
                    self.assertGreaterEqual(told, best)

    def test_both_words_are_told_of_many(self):
        told = {loose(problem, whole(problem))[0] for problem in problems(82, 100, 20)}
        self.assertEqual(told, {"none", "most"})

    def test_without_rows(self):
        for gain in (-50, -1, 0, 1, 50):
            self.assertEqual(self.gain(Problem([20], [], [gain]), [(3, 8)]), max(3 * gain, 8 * gain))
        problem = Problem([4, 3, 20], [], [5, -7, 2])
        self.assertEqual(self.gain(problem, whole(problem)), 20 + 0 + 40)
        self.assertEqual(self.gain(problem, [(1, 2), (2, 3), (5, 5)]), 10 - 14 + 10)

    def test_fractions_by_hand(self):
        self.assertEqual(self.gain(Problem([20], [((2,), "most", 7)], [3]), [(0, 20)]), Fraction(21, 2))
        self.assertEqual(self.gain(Problem([20], [((2,), "least", 7)], [-3]), [(0, 20)]), Fraction(-21, 2))
        rows = [((2, 1), "most", 7), ((1, 3), "most", 8)]
        self.assertEqual(self.gain(Problem([9, 9], rows, [1, 1]), [(0, 9), (0, 9)]), Fraction(22, 5))
        rows = [((2, 3, 1), "most", 5), ((4, 1, 2), "most", 11), ((3, 4, 2), "most", 8)]
        self.assertEqual(self.gain(Problem([20, 20, 20], rows, [5, 4, 3]), [(0, 20)] * 3), 13)
        self.assertEqual(self.gain(Problem([20, 20, 20], rows, [5, 4, 3]), [(0, 1), (0, 20), (0, 20)]),
                         Fraction(25, 2))

    def test_no_fractions(self):
        for rows in ([((1,), "most", -1)], [((1,), "least", 21)], [((1,), "most", 3), ((1,), "least", 4)],
                     [((3,), "least", 7), ((2,), "most", 4)]):
            for gain in (-1, 0, 1):
                self.assertEqual(self.told(Problem([20], rows, [gain]), [(0, 20)])[0], "none")
        rows = [((1, 1), "least", 9), ((1, -1), "least", 2), ((3, 1), "most", 19)]
        self.assertEqual(self.told(Problem([20, 20], rows, [1, 1]), [(0, 20), (0, 20)])[0], "none")

    def test_fractions_only(self):
        # No whole number meets these, but fractions do.
        rows = [((2,), "most", 7), ((2,), "least", 7)]
        self.assertEqual(self.gain(Problem([20], rows, [4]), [(0, 20)]), 14)
        self.assertEqual(self.gain(Problem([20], rows, [-4]), [(0, 20)]), -14)
        self.assertEqual(self.gain(Problem([20], rows, [0]), [(0, 20)]), 0)
        self.assertIsNone(self.gain(Problem([20], rows, [4]), [(0, 3)]))
        self.assertIsNone(self.gain(Problem([20], rows, [4]), [(4, 20)]))

    def test_a_row_met_only_at_one_spot(self):
        rows = [((1, 1, 1), "least", 60)]
        self.assertEqual(self.gain(Problem([20, 20, 20], rows, [-1, 2, -3]), [(0, 20)] * 3), -40)
        self.assertIsNone(self.gain(Problem([20, 20, 20], rows, [-1, 2, -3]), [(0, 20), (0, 20), (0, 19)]))

    def test_boxes_of_one_point(self):
        rows = [((2, 1), "most", 7)]
        for x in range(6):
            for y in range(6):
                told = self.gain(Problem([5, 5], rows, [3, -2]), [(x, x), (y, y)])
                self.assertEqual(told, 3 * x - 2 * y if 2 * x + y <= 7 else None)

    def test_tops_of_nought(self):
        for unknowns in (1, 2, 3):
            for number, word, bound, met in ((5, "most", 0, True), (5, "most", -1, False), (-5, "least", 0, True),
                                             (-5, "least", 1, False)):
                problem = Problem([0] * unknowns, [((number,) * unknowns, word, bound)], [7] * unknowns)
                self.assertEqual(self.gain(problem, [(0, 0)] * unknowns), 0 if met else None)

    def test_rows_that_say_the_same(self):
        for row in (((2, 3), "most", 7), ((-2, -3), "least", -7), ((2, 3), "least", 7)):
            for many in range(1, 7):
                for gain in ([2, 3], [1, 1], [-2, -3], [0, 0], [4, -1]):
                    one = self.gain(Problem([20, 20], [row], gain), [(0, 20), (0, 20)])
                    self.assertEqual(self.gain(Problem([20, 20], [row] * many, gain), [(0, 20), (0, 20)]), one)

    def test_rows_that_say_the_same_in_other_words(self):
        rows = [((1, 1, 1), "most", 7), ((2, 2, 2), "most", 14), ((-3, -3, -3), "least", -21),
                ((1, 1, 1), "least", 7), ((-1, -1, -1), "most", -7), ((50, 50, 50), "least", 350)]
        for gain in ([1, 1, 1], [-1, -1, -1], [0, 0, 0]):
            self.assertEqual(self.gain(Problem([20, 20, 20], rows, gain), [(0, 20)] * 3), 7 * gain[0])
        self.assertEqual(self.gain(Problem([20, 20, 20], rows, [50, 49, -50]), [(0, 6), (0, 20), (0, 20)]), 349)

    def test_rows_of_noughts(self):
        for unknowns in (1, 2, 3):
            for word in WORDS:
                for bound in (-2000, -1, 0, 1, 2000):
                    rows = [((0,) * unknowns, word, bound)]
                    met = bound >= 0 if word == "most" else bound <= 0
                    for gain in (0, 3, -3):
                        told = self.gain(Problem([5] * unknowns, rows, [gain] * unknowns), [(0, 5)] * unknowns)
                        self.assertEqual(told, max(0, 5 * gain * unknowns) if met else None)

    def test_a_gain_of_noughts(self):
        for problem in problems(85, 200, 20):
            problem = Problem(problem.tops, problem.rows, [0] * len(problem.tops))
            self.assertIn(self.gain(problem, whole(problem)), (0, None))

    def test_the_greatest_numbers_and_bounds(self):
        for number in (-50, 50):
            for word in WORDS:
                for bound in (-2000, 2000):
                    for gain in (-50, 50):
                        problem = Problem([20] * 3, [((number, -number, number), word, bound)] * 6, [gain] * 3)
                        self.told(problem, whole(problem))
        problem = Problem([20] * 3, [((50, 50, 50), "most", 2000)], [50, 50, 50])
        self.assertEqual(self.gain(problem, whole(problem)), 2000)

    def test_corners_at_which_many_facts_are_tight(self):
        # Where so many facts meet in one spot, careless steps come round to where they were.
        rows = [((1, 1, 0), "most", 0), ((1, -1, 0), "most", 0), ((0, 1, 1), "most", 0), ((1, 0, -1), "most", 0),
                ((1, 1, -1), "least", 0), ((-1, 1, 1), "least", 0)]
        chance = random.Random(86)
        for _ in range(300):
            some = [chance.choice(rows) for _ in range(chance.randint(1, 6))]
            gain = [chance.choice((-1, 0, 0, 1)) for _ in range(3)]
            self.told(Problem([20, 20, 20], some, gain), [(0, 20)] * 3)


class AnewTest(LooseTest):
    def test_what_was_told_and_then_changed_is_told_anew(self):
        none = Problem([20], [((3,), "least", 7), ((2,), "most", 4)], [1])
        for problem in (three(), none):
            first = loose(problem, whole(problem))
            kept = copy.deepcopy(first)
            if first[0] == "most":
                first[1][0].clear()
                first[2][0] = 99
            else:
                first[1].clear()
            self.assertEqual(loose(problem, whole(problem)), kept)
            self.assertEqual(fields(three()), fields(three()))

    def test_what_was_told_stays(self):
        problem, box = three(), whole(three())
        first = loose(problem, box)
        kept = copy.deepcopy(first)
        box[0] = (1, 1)
        loose(problem, box)
        loose(Problem([20] * 3, [], [-1] * 3), [(0, 20)] * 3)
        self.assertEqual(first, kept)

    def test_the_same_box_with_other_numbers(self):
        problem, box = Problem([9], [((2,), "most", 9)], [1]), [(0, 9)]
        self.assertEqual(self.gain(problem, box), Fraction(9, 2))
        box[0] = (0, 3)
        self.assertEqual(self.gain(problem, box), 3)
        box[0] = (5, 9)
        self.assertIsNone(self.gain(problem, box))


class BoxTest(LooseTest):
    def bad(self, problem, box):
        before = copy.deepcopy(box)
        self.refused(BadBox, loose, problem, box)
        self.assertEqual(box, before)

    def test_pairs_beyond_the_ends(self):
        for pair in ((-1, 0), (-1, 5), (0, 6), (6, 6), (1, 0), (5, 4), (-10 ** 40, 5), (0, 10 ** 40)):
            self.bad(Problem([5], [], [1]), [pair])
            for place in range(3):
                self.bad(Problem([5, 5, 5], [], [1, 1, 1]), changed([(0, 5)] * 3, place, pair))

    def test_too_few_and_too_many_pairs(self):
        for unknowns in (1, 2, 3):
            for many in range(6):
                if many != unknowns:
                    self.bad(Problem([5] * unknowns, [], [1] * unknowns), [(0, 5)] * many)

    def test_no_pairs(self):
        for thing in ((), (0,), (0, 1, 2), [0, 1], "01", None, 0, True, {0: 1, 1: 2}):
            self.bad(Problem([5, 5], [], [1, 1]), [thing, (0, 5)])
            self.bad(Problem([5, 5], [], [1, 1]), [(0, 5), thing])

    def test_no_numbers(self):
        for thing in NO_NUMBERS:
            self.bad(Problem([5], [], [1]), [(thing, 5)])
            self.bad(Problem([5], [], [1]), [(0, thing)])

    def test_no_lists(self):
        for thing in NO_LISTS:
            self.bad(Problem([5], [], [1]), thing)
        self.bad(Problem([5], [], [1]), ((0, 5),))

    def test_refused_also_where_nothing_meets_the_rows(self):
        self.bad(Problem([5], [((0,), "most", -1)], [1]), [(0, 6)])


if __name__ == "__main__":
    unittest.main()
