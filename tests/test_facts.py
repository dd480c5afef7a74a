"""Boxes, facts and weights: points 1, 4, 5 and 6 of the document."""

import copy
import itertools
import unittest

from tests.helper import NO_LISTS, NO_NUMBERS, RefusalTest, changed, three
from wholecut import facts as module
from wholecut.errors import BadBox, BadWeights
from wholecut.facts import facts, summed, whole_box
from wholecut.problems import Problem, meets

HUGE = 10 ** 60

# The facts of three() for the whole box, and for a lesser one.
ROW_FACTS = [((2, -3, 0), 7), ((-1, -1, -1), -2), ((50, 0, -50), 2000)]
WHOLE_FACTS = ROW_FACTS + [((1, 0, 0), 4), ((-1, 0, 0), 0), ((0, 1, 0), 3), ((0, -1, 0), 0),
                           ((0, 0, 1), 2), ((0, 0, -1), 0)]
LESSER = [(1, 3), (2, 2), (0, 1)]
LESSER_FACTS = ROW_FACTS + [((1, 0, 0), 3), ((-1, 0, 0), -1), ((0, 1, 0), 2), ((0, -1, 0), -2),
                            ((0, 0, 1), 1), ((0, 0, -1), 0)]


class WholeBoxTest(unittest.TestCase):
    def test_interface(self):
        for found in (whole_box, facts, summed):
            self.assertEqual(found.__module__, module.__name__)
        problem = Problem([1], [], [1])
        self.assertEqual(whole_box(problem=problem), [(0, 1)])
        self.assertEqual(facts(problem=problem, box=[(0, 1)]), [((1,), 1), ((-1,), 0)])
        self.assertEqual(summed(problem=problem, box=[(0, 1)], weights=[1, 1]), ((0,), 1))

    def test_from_nought_to_each_top(self):
        self.assertEqual(whole_box(Problem([0], [], [1])), [(0, 0)])
        self.assertEqual(whole_box(Problem([20, 0], [], [1, 1])), [(0, 20), (0, 0)])
        self.assertEqual(whole_box(three()), [(0, 4), (0, 3), (0, 2)])

    def test_it_is_a_list_of_tuples(self):
        box = whole_box(three())
        self.assertIs(type(box), list)
        self.assertEqual([type(pair) for pair in box], [tuple] * 3)

    def test_it_is_told_anew(self):
        problem = three()
        box = whole_box(problem)
        box[0] = (1, 1)
        box.pop()
        self.assertEqual(whole_box(problem), [(0, 4), (0, 3), (0, 2)])
        self.assertEqual(problem.tops, [4, 3, 2])
        self.assertIsNot(whole_box(problem), whole_box(problem))


class FactsTest(unittest.TestCase):
    def test_one_unknown_without_rows(self):
        problem = Problem([20], [], [1])
        self.assertEqual(facts(problem, [(0, 20)]), [((1,), 20), ((-1,), 0)])
        self.assertEqual(facts(problem, [(20, 20)]), [((1,), 20), ((-1,), -20)])
        self.assertEqual(facts(problem, [(3, 8)]), [((1,), 8), ((-1,), -3)])
        self.assertEqual(facts(problem, [(0, 0)]), [((1,), 0), ((-1,), 0)])

    def test_rows_of_both_words(self):
        rows = [((7, -8), "most", -9), ((7, -8), "least", -9), ((0, 5), "least", 6)]
        told = facts(Problem([1, 1], rows, [1, 1]), [(0, 1), (0, 1)])
        self.assertEqual(told[:3], [((7, -8), -9), ((-7, 8), 9), ((0, -5), -6)])

    def test_the_order_for_the_whole_box(self):
        self.assertEqual(facts(three(), whole_box(three())), WHOLE_FACTS)

    def test_the_order_for_a_lesser_box(self):
        self.assertEqual(facts(three(), LESSER), LESSER_FACTS)

    def test_six_rows(self):
        rows = [((number, 1), word, number) for number in (2, 1, 3) for word in ("least", "most")]
        told = facts(Problem([9, 9], rows, [1, 1]), [(2, 3), (4, 5)])
        self.assertEqual(told, [((-2, -1), -2), ((2, 1), 2), ((-1, -1), -1), ((1, 1), 1), ((-3, -1), -3), ((3, 1), 3),
                                ((1, 0), 3), ((-1, 0), -2), ((0, 1), 5), ((0, -1), -4)])

    def test_kinds(self):
        told = facts(three(), LESSER)
        self.assertIs(type(told), list)
        for fact in told:
            self.assertEqual((type(fact), type(fact[0]), type(fact[1])), (tuple, tuple, int))
            self.assertEqual([type(number) for number in fact[0]], [int] * 3)

    def test_they_are_told_anew(self):
        problem = three()
        told = facts(problem, LESSER)
        told[0] = None
        told.clear()
        self.assertEqual(facts(problem, LESSER), LESSER_FACTS)
        self.assertEqual(problem.rows, three().rows)

    def test_what_was_told_stays(self):
        problem, box = three(), list(LESSER)
        told = facts(problem, box)
        box[0] = (4, 4)
        facts(problem, box)
        facts(problem, whole_box(problem))
        self.assertEqual(told, LESSER_FACTS)

    def test_the_same_box_with_other_numbers(self):
        problem, box = three(), whole_box(three())
        self.assertEqual(facts(problem, box), WHOLE_FACTS)
        box[0], box[1], box[2] = LESSER
        self.assertEqual(facts(problem, box), LESSER_FACTS)

    def test_what_is_handed_in_is_unchanged(self):
        problem, box = three(), list(LESSER)
        facts(problem, box)
        self.assertEqual(box, LESSER)
        self.assertEqual((problem.tops, problem.rows, problem.gain), (three().tops, three().rows, three().gain))

    def test_they_hold_just_at_the_points_of_the_box_that_meet_the_problem(self):
        problem = three()
        for box in (whole_box(problem), LESSER, [(2, 2), (0, 3), (1, 2)]):
            told = facts(problem, box)
            for point in itertools.product(range(-1, 6), range(-1, 5), range(-1, 4)):
                within = all(least <= number <= greatest for number, (least, greatest) in zip(point, box))
                held = all(at(numbers, point) <= bound for numbers, bound in told)
                self.assertEqual(held, within and meets(problem, list(point)))


class BoxTest(RefusalTest):
    def bad(self, problem, box):
        before = copy.deepcopy(box)
        weights = [1] * (len(problem.rows) + 2 * len(problem.tops))
        self.refused(BadBox, facts, problem, box)
        self.refused(BadBox, summed, problem, box, weights)
        self.assertEqual(box, before)

    def test_pairs_at_the_ends(self):
        problem = Problem([5], [], [1])
        for pair in ((0, 0), (0, 5), (5, 5), (2, 3), (2, 2)):
            self.assertEqual(facts(problem, [pair]), [((1,), pair[1]), ((-1,), -pair[0])])

    def test_pairs_beyond_the_ends(self):
        for pair in ((-1, 0), (-1, 5), (-1, -1), (0, 6), (5, 6), (6, 6), (-HUGE, 0), (0, HUGE), (HUGE, HUGE)):
            self.bad(Problem([5], [], [1]), [pair])

    def test_the_top_is_that_of_the_same_unknown(self):
        problem = Problem([5, 0, 9], [], [1, 1, 1])
        self.assertEqual(len(facts(problem, [(0, 5), (0, 0), (0, 9)])), 6)
        for box in ([(0, 6), (0, 0), (0, 9)], [(0, 5), (0, 1), (0, 9)], [(0, 5), (0, 0), (0, 10)]):
            self.bad(problem, box)

    def test_pairs_turned_round(self):
        for pair in ((1, 0), (5, 0), (3, 2)):
            self.bad(Problem([5], [], [1]), [pair])
            for place in range(3):
                self.bad(Problem([5, 5, 5], [], [1, 1, 1]), changed([(0, 5)] * 3, place, pair))

    def test_too_few_and_too_many_pairs(self):
        for unknowns in (1, 2, 3):
            problem = Problem([5] * unknowns, [], [1] * unknowns)
            for many in range(6):
                if many != unknowns:
                    self.bad(problem, [(0, 5)] * many)

    def test_no_pairs(self):
        problem = Problem([5, 5], [], [1, 1])
        for thing in ((), (0,), (0, 1, 2), [0, 1], "01", None, 0, True, {0: 1, 1: 2}):
            self.bad(problem, [thing, (0, 5)])
            self.bad(problem, [(0, 5), thing])

    def test_no_numbers(self):
        for thing in NO_NUMBERS:
            self.bad(Problem([5], [], [1]), [(thing, 5)])
            self.bad(Problem([5], [], [1]), [(0, thing)])
            self.bad(three(), [(0, 4), (0, 3), (thing, 2)])
            self.bad(three(), [(0, 4), (0, 3), (0, thing)])

    def test_no_lists(self):
        for thing in NO_LISTS:
            self.bad(Problem([5], [], [1]), thing)
        self.bad(Problem([5], [], [1]), ((0, 5),))
        self.bad(three(), tuple(LESSER))
        self.bad(three(), {(0, 4): 0, (0, 3): 0, (0, 2): 0})


class SummedTest(unittest.TestCase):
    def test_noughts(self):
        self.assertEqual(summed(three(), LESSER, [0] * 9), ((0, 0, 0), 0))

    def test_ones(self):
        self.assertEqual(summed(three(), LESSER, [1] * 9), ((51, -4, -51), 2008))
        self.assertEqual(summed(three(), whole_box(three()), [1] * 9), ((51, -4, -51), 2014))

    def test_each_fact_alone(self):
        for place, (numbers, bound) in enumerate(LESSER_FACTS):
            for weight in (1, 2, HUGE):
                wanted = (tuple(weight * number for number in numbers), weight * bound)
                self.assertEqual(summed(three(), LESSER, changed([0] * 9, place, weight)), wanted)

    def test_very_great_weights(self):
        weights = [HUGE + place for place in range(9)]
        numbers = tuple(at(weights, [fact[0][unknown] for fact in LESSER_FACTS]) for unknown in range(3))
        bound = at(weights, [fact[1] for fact in LESSER_FACTS])
        self.assertEqual(summed(three(), LESSER, weights), (numbers, bound))

    def test_without_rows(self):
        self.assertEqual(summed(Problem([9], [], [1]), [(2, 7)], [5, 3]), ((2,), 29))
        self.assertEqual(summed(Problem([9, 9], [], [1, 1]), [(2, 7), (0, 9)], [5, 3, 1, 2]), ((2, -1), 38))

    def test_kinds(self):
        told = summed(three(), LESSER, [1] * 9)
        self.assertEqual((type(told), len(told), type(told[0]), type(told[1])), (tuple, 2, tuple, int))

    def test_what_meets_all_facts_meets_the_one(self):
        problem = three()
        for weights in ([1] * 9, [3, 1, 4, 1, 5, 9, 2, 6, 5], [0, 7, 0, 0, 2, 0, 0, 1, 0]):
            numbers, bound = summed(problem, LESSER, weights)
            for point in itertools.product(*[range(least, greatest + 1) for least, greatest in LESSER]):
                if meets(problem, list(point)):
                    self.assertLessEqual(at(numbers, point), bound)

    def test_what_is_handed_in_is_unchanged(self):
        problem, box, weights = three(), list(LESSER), [3, 1, 4, 1, 5, 9, 2, 6, 5]
        summed(problem, box, weights)
        self.assertEqual((box, weights), (LESSER, [3, 1, 4, 1, 5, 9, 2, 6, 5]))
        self.assertEqual((problem.tops, problem.rows, problem.gain), (three().tops, three().rows, three().gain))

    def test_the_same_lists_with_other_numbers(self):
        problem, box, weights = Problem([9], [], [1]), [(2, 7)], [1, 0]
        self.assertEqual(summed(problem, box, weights), ((1,), 7))
        weights[0] = 2
        self.assertEqual(summed(problem, box, weights), ((2,), 14))
        box[0] = (3, 5)
        self.assertEqual(summed(problem, box, weights), ((2,), 10))


class WeightsTest(RefusalTest):
    def bad(self, problem, box, weights):
        before = copy.deepcopy(weights)
        self.refused(BadWeights, summed, problem, box, weights)
        self.assertEqual(weights, before)

    def test_below_nought(self):
        for weight in (-1, -2, -HUGE):
            for place in range(9):
                self.bad(three(), LESSER, changed([1] * 9, place, weight))

    def test_too_few_and_too_many(self):
        for many in (0, 1, 3, 6, 8, 10, 20):
            self.bad(three(), LESSER, [1] * many)
        for many in (0, 1, 3):
            self.bad(Problem([9], [], [1]), [(2, 7)], [1] * many)

    def test_no_numbers(self):
        for thing in NO_NUMBERS:
            for place in range(9):
                self.bad(three(), LESSER, changed([1] * 9, place, thing))

    def test_no_lists(self):
        for thing in NO_LISTS:
            self.bad(Problem([9], [], [1]), [(2, 7)], thing)
        for thing in ((1, 1), "11", {0: 1, 1: 1}, {0, 1}, range(2)):
            self.bad(Problem([9], [], [1]), [(2, 7)], thing)

    def test_a_box_is_refused_ahead_of_the_weights(self):
        problem = Problem([9], [], [1])
        for box in (None, [], [(7, 2)], [(0, 10)], [(0, True)], ((2, 7),)):
            for weights in (None, [], [1], [1, -1], [1, True], (1, 1)):
                self.refused(BadBox, summed, problem, box, weights)


def at(numbers, point):
    return sum(number * other for number, other in zip(numbers, point))


if __name__ == "__main__":
    unittest.main()
