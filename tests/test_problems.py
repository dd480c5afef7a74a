"""Problems and points: points 1, 2 and 3 of the document."""

import copy
import unittest
from unittest import mock

from tests.helper import NO_LISTS, NO_NUMBERS, RefusalTest, changed, three
from wholecut import problems
from wholecut.errors import BadPoint, BadProblem
from wholecut.problems import Problem, gained, meets

HUGE = 10 ** 60


class GoodProblemTest(unittest.TestCase):
    def good(self, tops, rows, gain):
        problem = Problem(tops, rows, gain)
        self.assertEqual((problem.tops, problem.rows, problem.gain), (tops, rows, gain))

    def test_interface(self):
        for found in (Problem, meets, gained):
            self.assertEqual(found.__module__, problems.__name__)
        self.assertEqual(Problem(tops=[1], rows=[], gain=[2]).gain, [2])
        self.assertIs(meets(problem=Problem([1], [], [2]), point=[1]), True)
        self.assertEqual(gained(problem=Problem([1], [], [2]), point=[1]), 2)

    def test_one_to_three_unknowns(self):
        for unknowns in (1, 2, 3):
            self.good([5] * unknowns, [((1,) * unknowns, "most", 3)], [1] * unknowns)

    def test_none_to_six_rows(self):
        for many in range(7):
            self.good([5], [((1,), "most", place) for place in range(many)], [1])

    def test_each_number_at_its_ends(self):
        for top in (0, 1, 19, 20):
            self.good([top], [], [1])
            self.good([3, 3, top], [], [1, 1, 1])
        for number in (-50, -49, 0, 49, 50):
            self.good([1], [], [number])
            self.good([1], [((number,), "most", 0)], [1])
            self.good([1, 1, 1], [((0, 0, number), "least", 0)], [1, 1, number])
        for bound in (-2000, -1999, 0, 1999, 2000):
            self.good([1], [((1,), "most", bound)], [1])
            self.good([1], [((1,), "least", bound)], [1])

    def test_the_fields_are_lists_of_its_own(self):
        tops, rows, gain = [4, 3], [((1, 2), "most", 5)], [6, 7]
        problem = Problem(tops, rows, gain)
        for field, told in ((problem.tops, tops), (problem.rows, rows), (problem.gain, gain)):
            self.assertIs(type(field), list)
            self.assertIsNot(field, told)
        tops[0] = 0
        rows.append(((1, 1), "least", 9))
        rows[0] = ((0, 0), "least", 1)
        gain.clear()
        self.assertEqual((problem.tops, problem.rows, problem.gain), ([4, 3], [((1, 2), "most", 5)], [6, 7]))
        self.assertEqual((meets(problem, [1, 2]), meets(problem, [2, 2])), (True, False))
        self.assertEqual(gained(problem, [1, 1]), 13)

    def test_the_same_list_with_other_numbers_makes_another_problem(self):
        tops, rows, gain = [4], [((1,), "most", 3)], [6]
        first = Problem(tops, rows, gain)
        tops[0], rows[0], gain[0] = 2, ((1,), "most", 1), 5
        second = Problem(tops, rows, gain)
        self.assertEqual((second.tops, second.rows, second.gain), ([2], [((1,), "most", 1)], [5]))
        self.assertEqual((first.tops, first.rows, first.gain), ([4], [((1,), "most", 3)], [6]))
        self.assertEqual((meets(first, [2]), meets(second, [2])), (True, False))
        self.assertEqual((gained(first, [1]), gained(second, [1])), (6, 5))

    def test_one_list_in_two_places_makes_two_fields(self):
        numbers = [4, 3]
        problem = Problem(numbers, [], numbers)
        self.assertIsNot(problem.tops, problem.gain)

    def test_what_is_handed_in_is_unchanged(self):
        told = ([4, 3], [((1, 2), "most", 5), ((1, 0), "least", 0)], [6, 7])
        before = copy.deepcopy(told)
        Problem(*told)
        self.assertEqual(told, before)


class BadProblemTest(RefusalTest):
    def bad(self, tops, rows, gain):
        told = (tops, rows, gain)
        before = copy.deepcopy(told)
        self.refused(BadProblem, Problem, *told)
        self.assertEqual(told, before)

    def test_too_few_and_too_many_tops(self):
        self.bad([], [], [])
        self.bad([1] * 4, [], [1] * 4)
        self.bad([1] * 40, [], [1] * 40)

    def test_too_many_rows(self):
        row = ((1,), "most", 1)
        self.bad([1], [row] * 7, [1])
        self.bad([1], [row] * 70, [1])

    def test_too_few_and_too_many_numbers(self):
        for unknowns in (1, 2, 3):
            tops, full = [1] * unknowns, [1] * unknowns
            for many in range(6):
                if many != unknowns:
                    self.bad(tops, [((1,) * many, "most", 1)], full)
                    self.bad(tops, [], [1] * many)

    def test_tops_beyond_their_ends(self):
        for top in (-1, 21, -HUGE, HUGE):
            for place in range(3):
                self.bad(changed([1, 1, 1], place, top), [], [1, 1, 1])

    def test_numbers_beyond_their_ends(self):
        for number in (-51, 51, -HUGE, HUGE):
            for place in range(3):
                self.bad([1, 1, 1], [(changed((1, 1, 1), place, number), "most", 1)], [1, 1, 1])
                self.bad([1, 1, 1], [], changed([1, 1, 1], place, number))

    def test_bounds_beyond_their_ends(self):
        for bound in (-2001, 2001, -HUGE, HUGE):
            for word in ("most", "least"):
                self.bad([1], [((1,), word, bound)], [1])

    def test_no_numbers(self):
        for thing in NO_NUMBERS:
            self.bad([thing], [], [1])
            self.bad([1, 1, thing], [], [1, 1, 1])
            self.bad([1], [((thing,), "most", 1)], [1])
            self.bad([1, 1, 1], [((1, 1, thing), "most", 1)], [1, 1, 1])
            self.bad([1], [((1,), "most", thing)], [1])
            self.bad([1], [], [thing])
            self.bad([1, 1, 1], [], [1, 1, thing])

    def test_no_lists(self):
        for thing in NO_LISTS:
            self.bad(thing, [], [1])
            self.bad(thing, [], [])
            self.bad([1], thing, [1])
            self.bad([1], [], thing)
            self.bad([1], [thing], [1])
            self.bad([1], [(thing, "most", 1)], [1])

    def test_a_tuple_in_the_place_of_a_list(self):
        self.bad((1,), [], [1])
        self.bad([1], (((1,), "most", 1),), [1])
        self.bad([1], [], (1,))

    def test_a_list_in_the_place_of_a_tuple(self):
        self.bad([1], [[(1,), "most", 1]], [1])
        self.bad([1], [([1], "most", 1)], [1])

    def test_a_text_in_the_place_of_a_row_of_three(self):
        self.bad([1], ["1m1"], [1])
        self.bad([1], ["most"], [1])

    def test_rows_of_other_lengths(self):
        self.bad([1], [()], [1])
        self.bad([1], [((1,), "most")], [1])
        self.bad([1], [((1,), "most", 1, 1)], [1])
        self.bad([1], [((1,), 1, "most")], [1])

    def test_other_words(self):
        for word in ("", "Most", "LEAST", "most ", "mos", "mostleast", "equal", "<=", 0, 1, None, True, ["most"],
                     ("most", "least"), b"most", mock.ANY):
            self.bad([1], [((1,), word, 1)], [1])

    def test_one_bad_row_among_good_ones(self):
        good = ((1,), "most", 1)
        for place in range(6):
            self.bad([1], changed([good] * 6, place, ((1,), "more", 1)), [1])
            self.bad([1], changed([good] * 6, place, ((51,), "most", 1)), [1])


class MeetsTest(unittest.TestCase):
    def test_from_nought_to_the_tops_without_rows(self):
        problem = Problem([2, 0, 20], [], [1, 1, 1])
        for point in ([0, 0, 0], [2, 0, 20], [1, 0, 7]):
            self.assertIs(meets(problem, point), True)
        for point in ([-1, 0, 0], [0, -1, 0], [0, 0, -1], [3, 0, 0], [0, 1, 0], [0, 0, 21]):
            self.assertIs(meets(problem, point), False)

    def test_very_great_numbers_either_way(self):
        problem = Problem([2, 3], [], [1, 1])
        for number in (HUGE, -HUGE):
            for point in ([number, 0], [0, number], [number, -number], [number, number]):
                self.assertIs(meets(problem, point), False)

    def test_rows_that_hold_do_not_help_beyond_the_tops(self):
        rows = [((1, 0), "least", 1), ((0, 1), "most", 1)]
        problem = Problem([5, 5], rows, [1, 1])
        for point in ([6, 0], [HUGE, 0], [5, -1], [5, -HUGE], [HUGE, -HUGE]):
            self.assertIs(meets(problem, point), False)
        self.assertIs(meets(problem, [5, 0]), True)

    def test_most_met_at_the_bound_and_missed_by_one(self):
        for bound in (10, 11, 12):
            problem = Problem([20, 20], [((2, -3), "most", bound)], [0, 0])
            self.assertIs(meets(problem, [7, 1]), bound >= 11)

    def test_least_met_at_the_bound_and_missed_by_one(self):
        for bound in (10, 11, 12):
            problem = Problem([20, 20], [((2, -3), "least", bound)], [0, 0])
            self.assertIs(meets(problem, [7, 1]), bound <= 11)

    def test_bounds_below_nought(self):
        for bound in (-12, -11, -10):
            most = Problem([20, 20], [((-2, 3), "most", bound)], [0, 0])
            least = Problem([20, 20], [((-2, 3), "least", bound)], [0, 0])
            self.assertIs(meets(most, [7, 1]), bound >= -11)
            self.assertIs(meets(least, [7, 1]), bound <= -11)

    def test_each_of_six_rows_counts(self):
        met = [((1,), "most", 5), ((1,), "least", 5), ((-1,), "most", -5),
               ((2,), "most", 10), ((3,), "least", 15), ((50,), "most", 250)]
        missed = [((1,), "most", 4), ((1,), "least", 6), ((-1,), "most", -6),
                  ((2,), "most", 9), ((3,), "least", 16), ((50,), "most", 249)]
        self.assertIs(meets(Problem([20], met, [1]), [5]), True)
        for place in range(6):
            self.assertIs(meets(Problem([20], changed(met, place, missed[place]), [1]), [5]), False)

    def test_rows_of_the_greatest_numbers(self):
        rows = [((50, 50, 50), "most", 2000), ((-50, -50, -50), "least", -2000)]
        problem = Problem([20, 20, 20], rows, [50, 50, 50])
        self.assertIs(meets(problem, [20, 20, 0]), True)
        self.assertIs(meets(problem, [20, 20, 1]), False)

    def test_all_points_of_a_problem(self):
        problem = three()
        for x in range(-1, 6):
            for y in range(-1, 5):
                for z in range(-1, 4):
                    wanted = (0 <= x <= 4 and 0 <= y <= 3 and 0 <= z <= 2 and 2 * x - 3 * y <= 7
                              and x + y + z >= 2 and -50 * x + 50 * z >= -2000)
                    self.assertIs(meets(problem, [x, y, z]), wanted)


class GainedTest(unittest.TestCase):
    def test_points_that_meet_and_points_that_do_not(self):
        problem = Problem([2, 3], [((1, 1), "most", 2)], [5, -7])
        for x, y in ((0, 0), (1, 0), (0, 1), (2, 0), (2, 3), (-1, 4), (21, -21), (HUGE, 1), (1, HUGE), (-HUGE, HUGE)):
            self.assertEqual(gained(problem, [x, y]), 5 * x - 7 * y)

    def test_three_unknowns(self):
        self.assertEqual(gained(three(), [2, 3, 4]), 10 - 3 + 8)

    def test_a_gain_of_noughts(self):
        self.assertEqual(gained(Problem([2, 3], [], [0, 0]), [HUGE, -HUGE]), 0)

    def test_it_is_a_plain_whole_number(self):
        self.assertIs(type(gained(Problem([1], [], [1]), [1])), int)


class PointTest(RefusalTest):
    def bad(self, problem, point):
        before = copy.deepcopy(point)
        self.refused(BadPoint, meets, problem, point)
        self.refused(BadPoint, gained, problem, point)
        self.assertEqual(point, before)

    def test_too_few_and_too_many_numbers(self):
        for unknowns in (1, 2, 3):
            problem = Problem([1] * unknowns, [], [1] * unknowns)
            for many in range(6):
                if many != unknowns:
                    self.bad(problem, [0] * many)

    def test_no_numbers(self):
        for thing in NO_NUMBERS:
            self.bad(Problem([1], [], [1]), [thing])
            for place in range(3):
                self.bad(three(), changed([1, 1, 1], place, thing))

    def test_a_number_that_is_none_beside_one_beyond_its_top(self):
        self.bad(three(), [99, 1, None])
        self.bad(three(), [-1, True, 1])

    def test_no_lists(self):
        for thing in NO_LISTS:
            self.bad(Problem([1], [], [1]), thing)
        for thing in ((1, 1, 1), "111", {0: 1, 1: 1, 2: 1}, {0, 1, 2}, range(3)):
            self.bad(three(), thing)

    def test_the_point_and_the_problem_are_unchanged(self):
        problem, point = three(), [1, 2, 0]
        before = copy.deepcopy((problem.tops, problem.rows, problem.gain))
        meets(problem, point)
        gained(problem, point)
        self.assertEqual(point, [1, 2, 0])
        self.assertEqual((problem.tops, problem.rows, problem.gain), before)

    def test_the_same_point_with_other_numbers(self):
        problem, point = Problem([5], [((1,), "most", 3)], [2]), [3]
        self.assertEqual((meets(problem, point), gained(problem, point)), (True, 6))
        point[0] = 4
        self.assertEqual((meets(problem, point), gained(problem, point)), (False, 8))
        point[0] = 1
        self.assertEqual((meets(problem, point), gained(problem, point)), (True, 2))
        point.append(1)
        self.bad(problem, point)


if __name__ == "__main__":
    unittest.main()
