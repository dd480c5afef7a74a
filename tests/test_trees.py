"""The answer of a problem: points 1, 9 and 10 of the document."""

import copy
import unittest

from tests.helper import (at, best_gain, changed, cut_boxes, fields, fits, is_answer, limit, parts, problems,
                          shows_none, three, whole)
from wholecut import trees as module
from wholecut.problems import Problem
from wholecut.trees import looked_over, solved


def parity(unknowns, total, gain):
    """A problem of sums that are met by fractions, but by no whole numbers."""
    row = (2,) * unknowns
    return Problem([20] * unknowns, [(row, "most", total), (row, "least", total)], gain)


class SolvedTest(unittest.TestCase):
    def told(self, problem):
        """The answer of the problem, looked over by points 9 and 10; what was handed in is unchanged."""
        before = fields(problem)
        told = solved(problem)
        self.assertEqual(fields(problem), before)
        self.assertEqual((type(told), len(told)), (tuple, 2))
        point, tree = told
        if point is not None:
            self.assertIs(type(point), list)
            self.assertTrue(all(type(number) is int for number in point))
        self.ends(problem, whole(problem), tree)
        self.assertTrue(is_answer(problem, point, tree), (before, told))
        self.assertIs(looked_over(problem, point, tree), True)
        return told

    def ends(self, problem, box, tree):
        """Each part is a tuple of its word, as long as told, and each end shows of its box what point 9 says."""
        self.assertIs(type(tree), tuple)
        if tree[0] == "none":
            self.assertEqual(len(tree), 2)
            self.assertTrue(shows_none(problem, box, tree[1]))
        elif tree[0] == "bound":
            self.assertEqual(len(tree), 3)
            self.assertIsNotNone(limit(problem, box, tree[1], tree[2]))
        else:
            self.assertEqual((tree[0], len(tree), type(tree[1]), type(tree[2])), ("cut", 5, int, int))
            self.assertIn(tree[1], range(len(box)))
            self.assertIn(tree[2], range(*box[tree[1]]))
            first, second = cut_boxes(box, tree[1], tree[2])
            self.ends(problem, first, tree[3])
            self.ends(problem, second, tree[4])

    def gain(self, problem):
        point = self.told(problem)[0]
        return None if point is None else at(problem.gain, point)


class AnswerTest(SolvedTest):
    def test_interface(self):
        for found in (solved, looked_over):
            self.assertEqual(found.__module__, module.__name__)
        problem = Problem([1], [], [2])
        point, tree = solved(problem=problem)
        self.assertEqual(point, [1])
        self.assertIs(looked_over(problem=problem, point=point, tree=tree), True)

    def test_against_all_points(self):
        for problem in problems(101, 1500, 5):
            self.assertEqual(self.gain(problem), best_gain(problem, whole(problem)), fields(problem))

    def test_against_all_points_of_great_boxes(self):
        for problem in problems(102, 80, 20):
            self.assertEqual(self.gain(problem), best_gain(problem, whole(problem)), fields(problem))

    def test_many_great_problems(self):
        # Each tree shows of itself that no point gains more, or that none meets the problem.
        told = [self.told(problem)[0] for problem in problems(103, 1500, 20)]
        self.assertGreater(sum(point is None for point in told), 100)
        self.assertGreater(sum(point is not None for point in told), 500)

    def test_three_unknowns_and_six_rows(self):
        many = [problem for problem in problems(104, 6000, 20) if len(problem.tops) == 3 and len(problem.rows) == 6]
        self.assertGreater(len(many), 150)
        for problem in many:
            self.told(problem)

    def test_without_rows(self):
        self.assertEqual(self.told(Problem([4, 3, 20], [], [5, -7, 2]))[0], [4, 0, 20])
        self.assertEqual(self.gain(Problem([4, 3, 20], [], [0, 0, 0])), 0)
        self.assertEqual(self.told(Problem([0], [], [-50]))[0], [0])

    def test_by_hand(self):
        self.assertEqual(self.gain(three()), 20 - 1 + 4)
        self.assertEqual(self.told(Problem([20], [((2,), "most", 7)], [3]))[0], [3])
        self.assertEqual(self.told(Problem([20], [((2,), "least", 7)], [-3]))[0], [4])
        rows = [((2, 2), "most", 7), ((2, 0), "least", 1), ((0, 2), "least", 1)]
        self.assertEqual(self.gain(Problem([9, 9], rows, [3, 2])), 8)

    def test_gains_below_nought(self):
        for problem in (Problem([5, 5], [((2, 2), "least", 7)], [-2, -3]), Problem([5], [((3,), "least", 8)], [-50]),
                        Problem([5, 5, 5], [((3, 5, 7), "least", 64)], [-2, -3, -5])):
            told = self.gain(problem)
            self.assertEqual(told, best_gain(problem, whole(problem)))
            self.assertLess(told, 0)

    def test_none_where_no_fractions_meet(self):
        for rows in ([((1,), "least", 21)], [((1,), "most", -1)], [((0,), "most", -1)], [((0,), "least", 1)],
                     [((1,), "most", 3), ((1,), "least", 4)]):
            for gain in (-1, 0, 1):
                point, tree = self.told(Problem([20], rows, [gain]))
                self.assertIsNone(point)
                self.assertEqual({part[0] for part in parts(tree)}, {"none"})

    def test_none_where_only_fractions_meet(self):
        for problem in (parity(1, 7, [1]), parity(2, 21, [1, -1]), parity(2, 21, [0, 0]), parity(3, 7, [1, 2, 3]),
                        Problem([20], [((5,), "least", 6), ((5,), "most", 9)], [3])):
            point, tree = self.told(problem)
            self.assertIsNone(point)
            self.assertEqual({part[0] for part in parts(tree)}, {"none", "cut"})

    def test_trees_of_many_parts(self):
        # Planes between the points: the box is to be cut along the whole of them.
        self.assertIsNone(self.gain(parity(3, 61, [1, 2, 3])))
        self.assertIsNone(self.gain(Problem([20] * 3, [((34, 50, -42), "most", 521), ((34, 50, -42), "least", 521)],
                                            [0, 0, 0])))
        self.assertEqual(self.gain(Problem([20] * 3, [((50, 50, 50), "most", 1549)], [50, 50, 50])), 1500)
        self.assertEqual(self.gain(Problem([20] * 3, [((50, 50, 50), "least", 1501)], [-50, -50, -50])), -1550)

    def test_one_point_alone(self):
        point = [7, 13, 20]
        rows = [(tuple(changed([0] * 3, unknown, 1)), word, point[unknown])
                for unknown in range(3) for word in ("most", "least")]
        for gain in ([1, 1, 1], [-1, 2, -3], [0, 0, 0]):
            self.assertEqual(self.told(Problem([20] * 3, rows, gain))[0], point)
            self.assertIsNone(self.gain(Problem([20] * 3, changed(rows, 4, ((0, 0, 2), "most", 39)), gain)))

    def test_tops_of_nought(self):
        for unknowns in (1, 2, 3):
            for word, bound, met in (("most", 0, True), ("most", -1, False), ("least", 0, True), ("least", 1, False)):
                point, _ = self.told(Problem([0] * unknowns, [((9,) * unknowns, word, bound)], [1] * unknowns))
                self.assertEqual(point, [0] * unknowns if met else None)

    def test_rows_of_noughts_and_a_gain_of_noughts(self):
        for unknowns in (1, 2, 3):
            for word, bound, met in (("most", 0, True), ("most", 1, True), ("most", -1, False),
                                     ("least", 0, True), ("least", -1, True), ("least", 1, False)):
                for gain in (0, 2):
                    told = self.gain(Problem([3] * unknowns, [((0,) * unknowns, word, bound)], [gain] * unknowns))
                    self.assertEqual(told, 3 * gain * unknowns if met else None)

    def test_the_greatest_numbers_and_bounds(self):
        for word in ("most", "least"):
            for bound in (-2000, 2000):
                for gain in ([50, 50, 50], [-50, 49, -50]):
                    problem = Problem([20] * 3, [((50, -49, 48), word, bound)], gain)
                    told = self.gain(problem)
                    self.assertEqual(told, best_gain(problem, whole(problem)))
                    if told is not None:
                        self.assertTrue(fits(problem, solved(problem)[0]))


class AnewTest(SolvedTest):
    def lists(self, told):
        point, tree = told
        return ([] if point is None else [point]) + [part[1] for part in parts(tree) if part[0] != "cut"]

    def test_each_list_is_a_new_one(self):
        problem = Problem([9, 9], [((2, 2), "most", 15), ((2, -2), "least", -3)], [3, 2])
        first, second = solved(problem), solved(problem)
        told = self.lists(first) + self.lists(second) + [problem.tops, problem.rows, problem.gain]
        self.assertGreater(len(told), 7)
        self.assertEqual(len({id(one) for one in told}), len(told))

    def test_what_was_told_and_then_changed_is_told_anew(self):
        for problem in (three(), parity(2, 21, [1, -1]), Problem([9, 9], [((2, 2), "most", 15)], [3, 2])):
            before, first = fields(problem), solved(problem)
            kept = copy.deepcopy(first)
            for one in self.lists(first):
                one[0] = 99
                one.append(7)
            self.assertEqual(solved(problem), kept)
            self.assertEqual(fields(problem), before)

    def test_what_was_told_stays(self):
        first = solved(three())
        kept = copy.deepcopy(first)
        solved(Problem([4, 3, 2], [], [-1, -1, -1]))
        looked_over(three(), *first)
        solved(three())
        self.assertEqual(first, kept)

    def test_the_same_lists_with_other_numbers(self):
        tops, rows, gain = [9], [((2,), "most", 9)], [1]
        problem = Problem(tops, rows, gain)
        self.assertEqual(self.told(problem)[0], [4])
        tops[0], rows[0], gain[0] = 20, ((2,), "least", 9), -1
        self.assertEqual(self.told(problem)[0], [4])
        self.assertEqual(self.told(Problem(tops, rows, gain))[0], [5])


if __name__ == "__main__":
    unittest.main()
