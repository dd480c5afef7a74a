"""Answers made by hand looked over: points 1, 9, 10 and 11 of the document."""

import copy
import random
import unittest
from unittest import mock

from tests.helper import (HUGE, at, changed, fields, fits, is_answer, part_box, parts, points, problems, three, whole,
                          with_part)
from wholecut.loose import loose
from wholecut.problems import Problem
from wholecut.trees import looked_over, solved

# The whole of 2x at most 7, and what follows from it for x: 2x is at most 7, so x at most 3.
HALF = Problem([20], [((2,), "most", 7)], [1])
# The same below nought: 2x is at least 7, so -x at most -4.
LEAST = Problem([20], [((2,), "least", 7)], [-1])
# Met by fractions only: 2x is 7.
NEVER = Problem([20], [((2,), "most", 7), ((2,), "least", 7)], [1])
NEVER_TREE = ("cut", 0, 3, ("none", [0, 1, 2, 0]), ("none", [1, 0, 0, 2]))


def many_problems():
    """Problems whose answers have trees of one part and of several, with and without a point."""
    return problems(111, 60, 6) + [HALF, LEAST, NEVER, three(), Problem([9, 9], [((2, 2), "most", 15)], [3, 2]),
                                   Problem([20] * 3, [((2, 4, 6), "most", 27), ((4, -2, 2), "least", 1)], [2, 3, 4])]


def changed_lists(told, number):
    """The list with one number another one, too many or too few."""
    made = [told + [0], told + [number], told[:-1], []]
    for place, old in enumerate(told):
        made += [changed(told, place, thing) for thing in (old + 1, old - 1, -1, -old, number, -number)]
    return made


def changed_parts(tree, part):
    """What may be told in the place of the part of the tree, most of it wrong."""
    if part[0] == "none":
        made = [("none", weights) for weights in changed_lists(part[1], HUGE)]
        return made + [("bound", part[1], 1), ("bound", part[1], HUGE), tree]
    if part[0] == "bound":
        _, weights, scale = part
        made = [("bound", thing, scale) for thing in changed_lists(weights, HUGE)]
        made += [("bound", weights, thing) for thing in (scale + 1, scale - 1, 0, -1, -scale, HUGE, -HUGE)]
        return made + [("none", weights), ("bound", [HUGE * weight for weight in weights], HUGE * scale), tree]
    _, unknown, place, below, above = part
    made = [("cut", thing, place, below, above) for thing in (unknown + 1, unknown - 1, -1, 1, 2, 3, HUGE, -HUGE)]
    made += [("cut", unknown, thing, below, above) for thing in (place + 1, place - 1, -1, 0, 19, 20, HUGE, -HUGE)]
    return made + [("cut", unknown, place, above, below), below, above, tree,
                   ("cut", unknown, place, below, below), ("cut", unknown, place, above, above)]


class LookedOverTest(unittest.TestCase):
    def same(self, problem, point, tree):
        """Looked over it is what the own account of points 9 and 10 says; nothing handed in is changed."""
        before = copy.deepcopy((fields(problem), point, tree))
        told = looked_over(problem, point, tree)
        self.assertIs(told, is_answer(problem, point, tree), before)
        self.assertEqual((fields(problem), point, tree), before)
        return told

    def good(self, problem, point, tree):
        self.assertIs(self.same(problem, point, tree), True, (point, tree))

    def bad(self, problem, point, tree):
        self.assertIs(self.same(problem, point, tree), False, (point, tree))


class ChangedAnswersTest(LookedOverTest):
    def test_told_answers(self):
        for problem in many_problems():
            self.good(problem, *solved(problem))

    def test_other_points(self):
        chance = random.Random(112)
        for problem in many_problems():
            point, tree = solved(problem)
            old = [0] * len(problem.tops) if point is None else point
            for thing in changed_lists(old, HUGE) + chance.sample(points(whole(problem)), 1):
                self.same(problem, thing, tree)
            for thing in (old + [0], old[:-1], [], old * 7):
                self.bad(problem, thing, tree)

    def test_a_point_one_more_or_less(self):
        for step in (-1, 1):
            self.bad(HALF, [3 + step], ("bound", [1, 0, 0], 2))
            self.bad(LEAST, [4 + step], ("bound", [1, 0, 0], 2))
            self.bad(Problem([5], [], [3]), [5 + step], ("bound", [3, 0], 1))

    def test_none_in_place_of_the_point_and_the_other_way(self):
        for problem in many_problems():
            point, tree = solved(problem)
            if point is not None:
                self.bad(problem, None, tree)
            else:
                for thing in points(whole(problem))[:50]:
                    self.bad(problem, thing, tree)

    def test_each_part_changed(self):
        chance = random.Random(113)
        many = {True: 0, False: 0}
        for problem in many_problems():
            point, tree = solved(problem)
            all_parts = list(enumerate(parts(tree)))
            for number, part in chance.sample(all_parts, min(8, len(all_parts))):
                for thing in changed_parts(tree, part):
                    many[self.same(problem, point, with_part(tree, number, thing))] += 1
        self.assertGreater(many[True], 100)
        self.assertGreater(many[False], 1000)

    def test_a_part_in_the_place_of_the_whole(self):
        for problem in many_problems():
            point, tree = solved(problem)
            for part in parts(tree)[1:20]:
                self.same(problem, point, part)
        self.bad(NEVER, None, NEVER_TREE[3])
        self.bad(NEVER, None, NEVER_TREE[4])

    def test_the_trees_of_another_problem(self):
        told = [solved(problem) for problem in many_problems()]
        for problem in many_problems()[:20]:
            for point, tree in told:
                self.same(problem, point, tree)

    def test_weights_and_scales_many_times_as_great(self):
        for problem in many_problems():
            point, tree = solved(problem)
            for number, part in list(enumerate(parts(tree)))[:20]:
                if part[0] == "none":
                    self.good(problem, point, with_part(tree, number, ("none", [HUGE * one for one in part[1]])))
                if part[0] == "bound":
                    made = ("bound", [HUGE * one for one in part[1]], HUGE * part[2])
                    self.good(problem, point, with_part(tree, number, made))


class CutOnceMoreTest(LookedOverTest):
    def test_trees_cut_once_more_than_needed(self):
        chance = random.Random(114)
        for problem in many_problems():
            point, tree = solved(problem)
            for number, part in list(enumerate(parts(tree)))[:20]:
                box = part_box(problem, tree, number)
                wide = [unknown for unknown, (least, greatest) in enumerate(box) if least < greatest]
                if part[0] != "cut" and wide:
                    # Bounds of lesser boxes are lesser: so the weights of the whole do for both.
                    unknown = chance.choice(wide)
                    for place in (box[unknown][0], box[unknown][1] - 1):
                        self.good(problem, point, with_part(tree, number, ("cut", unknown, place, part, part)))
                    for place in (box[unknown][0] - 1, box[unknown][1]):
                        self.bad(problem, point, with_part(tree, number, ("cut", unknown, place, part, part)))

    def test_cut_down_to_single_points(self):
        for problem in problems(115, 40, 4):
            point, _ = solved(problem)
            self.good(problem, point, self.all_cut(problem, whole(problem)))

    def all_cut(self, problem, box):
        for unknown, (least, greatest) in enumerate(box):
            if least < greatest:
                first = changed(box, unknown, (least, least))
                second = changed(box, unknown, (least + 1, greatest))
                return "cut", unknown, least, self.all_cut(problem, first), self.all_cut(problem, second)
        told = loose(problem, box)
        return told if told[0] == "none" else ("bound", told[2], told[3])


class ByHandTest(LookedOverTest):
    def test_limits_are_rounded_down(self):
        self.good(HALF, [3], ("bound", [1, 0, 0], 2))
        self.bad(HALF, [2], ("bound", [1, 0, 0], 2))
        self.bad(HALF, [4], ("bound", [1, 0, 0], 2))
        self.good(LEAST, [4], ("bound", [1, 0, 0], 2))
        self.bad(LEAST, [5], ("bound", [1, 0, 0], 2))
        self.bad(LEAST, [3], ("bound", [1, 0, 0], 2))

    def test_limits_one_above_the_gain(self):
        for top in (3, 4):
            problem = Problem([20], [((1,), "most", top)], [1])
            self.assertIs(self.same(problem, [3], ("bound", [1, 0, 0], 1)), top == 3)
            self.bad(problem, [3], ("bound", [0, 1, 0], 1))

    def test_limits_below_the_gain_elsewhere(self):
        self.good(HALF, [3], ("cut", 0, 1, ("bound", [0, 1, 0], 1), ("bound", [1, 0, 0], 2)))
        self.bad(HALF, [1], ("cut", 0, 1, ("bound", [0, 1, 0], 1), ("bound", [1, 0, 0], 2)))

    def test_none_beside_a_bound(self):
        tree = ("cut", 0, 3, ("bound", [0, 1, 0], 1), ("none", [1, 0, 2]))
        self.good(HALF, [3], tree)
        self.bad(HALF, None, tree)

    def test_cuts_exchanged_and_moved(self):
        _, unknown, place, below, above = NEVER_TREE
        self.good(NEVER, None, NEVER_TREE)
        self.bad(NEVER, None, ("cut", unknown, place, above, below))
        for other in (-HUGE, -1, 0, 2, 4, 19, 20, 21, HUGE):
            self.bad(NEVER, None, ("cut", unknown, other, below, above))
        for other in (-HUGE, -2, -1, 1, 2, HUGE):
            self.bad(NEVER, None, ("cut", other, place, below, above))

    def test_places_at_the_ends(self):
        part = ("bound", [1, 0], 1)
        for place in (-1, 0, 3, 4, 5, 6):
            self.assertIs(self.same(Problem([5], [], [1]), [5], ("cut", 0, place, part, part)), 0 <= place <= 4)
        for place in (2, 3, 4):
            tree = ("cut", 0, 2, part, ("cut", 0, place, part, part))
            self.assertIs(self.same(Problem([5], [], [1]), [5], tree), place > 2)
            tree = ("cut", 0, 3, ("cut", 0, place, part, part), part)
            self.assertIs(self.same(Problem([5], [], [1]), [5], tree), place < 3)

    def test_an_unknown_below_nought_is_not_counted_from_the_end(self):
        problem = Problem([5, 5], [], [1, 1])
        part = ("bound", [1, 0, 1, 0], 1)
        for unknown in (-2, -1, 0, 1, 2):
            self.assertIs(self.same(problem, [5, 5], ("cut", unknown, 2, part, part)), unknown in (0, 1))

    def test_a_box_of_one_point_is_not_cut(self):
        part = ("bound", [1, 0], 1)
        self.good(Problem([0], [], [1]), [0], part)
        for place in (-1, 0, 1):
            self.bad(Problem([0], [], [1]), [0], ("cut", 0, place, part, part))

    def test_bounds_in_an_answer_of_none(self):
        self.bad(HALF, None, ("bound", [1, 0, 0], 2))
        self.bad(NEVER, None, ("cut", 0, 3, ("bound", [0, 0, 1, 0], 1), NEVER_TREE[4]))
        self.bad(NEVER, None, ("cut", 0, 3, NEVER_TREE[3], ("bound", [0, 0, 1, 0], 1)))
        # Nor where the limit is far below whatever a point could gain.
        self.bad(Problem([5], [((1,), "least", 6)], [0]), None, ("bound", [1, 1, 0], 1))

    def test_none_in_place_of_bound(self):
        self.bad(HALF, [3], ("none", [1, 0, 0]))
        self.bad(HALF, None, ("none", [1, 0, 0]))
        problem = Problem([5], [((1,), "least", 6)], [0])
        self.good(problem, None, ("none", [1, 1, 0]))
        # The gain of noughts makes these weights a bound, too; but no point meets the problem.
        for point in ([0], [5], [6]):
            self.bad(problem, point, ("bound", [1, 1, 0], 1))

    def test_none_needs_a_bound_below_nought_and_noughts(self):
        for bound in (4, 5, 6):
            problem = Problem([5], [((1,), "least", bound)], [0])
            self.assertIs(self.same(problem, None, ("none", [1, 1, 0])), bound == 6)
        problem = Problem([5, 5], [((1, 1), "least", 11)], [0, 0])
        self.good(problem, None, ("none", [1, 1, 0, 1, 0]))
        for place in range(1, 5):
            weights = [1, 1, 0, 1, 0]
            weights[place] += 1
            self.bad(problem, None, ("none", weights))
        self.bad(problem, None, ("none", [0, 0, 0, 0, 0]))
        self.bad(problem, None, ("none", [1, 0, 0, 0, 0]))

    def test_each_unknown_of_a_bound_counts(self):
        problem = Problem([5, 5, 5], [], [1, 2, 3])
        self.good(problem, [5, 5, 5], ("bound", [1, 0, 2, 0, 3, 0], 1))
        for weights in ([0, 0, 2, 0, 3, 0], [1, 0, 1, 0, 3, 0], [1, 0, 2, 0, 2, 0], [1, 0, 2, 0, 3, 1]):
            self.bad(problem, [5, 5, 5], ("bound", weights, 1))
        self.bad(problem, [5, 5, 5], ("bound", [1, 0, 2, 0, 3, 0], 2))

    def test_weights_below_nought(self):
        # Summed they would show anything: x at most 20, less the same, and so on.
        self.bad(HALF, [0], ("bound", [0, 0, -1], 1))
        self.bad(HALF, None, ("none", [-1, 0, -2]))
        self.bad(HALF, None, ("none", [1, -2, 0]))

    def test_scales_of_nought_and_below(self):
        self.bad(HALF, [3], ("bound", [0, 0, 0], 0))
        self.bad(HALF, [3], ("bound", [0, 0, 1], -1))
        zero = Problem([5], [], [0])
        self.good(zero, [0], ("bound", [0, 0], 1))
        for scale in (0, -1, -HUGE):
            self.bad(zero, [0], ("bound", [0, 0], scale))

    def test_numbers_of_any_size(self):
        for number in (10 ** 5000, -10 ** 5000):
            self.assertIs(looked_over(HALF, [number], ("bound", [1, 0, 0], 2)), False)
            self.assertIs(looked_over(HALF, [3], ("bound", [number, 0, 0], 2)), False)
            self.assertIs(looked_over(HALF, [3], ("bound", [1, 0, 0], number)), False)
            self.assertIs(looked_over(HALF, [3], ("bound", [number, 0, 0], 2 * number)), number > 0)
            self.assertIs(looked_over(HALF, [3], ("cut", number, 3, ("none", []), ("none", []))), False)
            self.assertIs(looked_over(HALF, [3], ("cut", 0, number, ("none", []), ("none", []))), False)

    def test_lists_of_any_length(self):
        for many in (0, 1, 2, 3, 4, 5, 100000):
            self.assertIs(looked_over(HALF, [3] * many, ("bound", [1, 0, 0], 2)), many == 1)
            self.assertIs(looked_over(HALF, [3], ("bound", ([1] + [0] * many)[:many], 2)), many == 3)
            self.assertIs(looked_over(NEVER, None, changed(NEVER_TREE, 3, ("none", ([0, 1, 2] + [0] * many)[:many]))),
                          many == 4)

    def test_true_and_false_are_no_numbers(self):
        one = Problem([1], [], [1])
        self.assertIs(looked_over(one, [1], ("bound", [1, 0], 1)), True)
        for point, tree in (([True], ("bound", [1, 0], 1)), ([1], ("bound", [True, 0], 1)),
                            ([1], ("bound", [1, False], 1)), ([1], ("bound", [1, 0], True))):
            self.assertIs(looked_over(one, point, tree), False)
        part = ("bound", [1, 0], 1)
        self.assertIs(looked_over(one, [1], ("cut", 0, 0, part, part)), True)
        self.assertIs(looked_over(one, [1], ("cut", False, 0, part, part)), False)
        self.assertIs(looked_over(one, [1], ("cut", 0, False, part, part)), False)


class NoTreesTest(unittest.TestCase):
    def bad(self, tree):
        """No tree of a problem, neither as the whole nor as a part."""
        problem = Problem([5], [], [0])
        part = ("bound", [0, 0], 1)
        self.assertIs(looked_over(problem, [0], ("cut", 0, 2, part, part)), True)
        for made in (tree, ("cut", 0, 2, tree, part), ("cut", 0, 2, part, tree)):
            self.assertIs(looked_over(problem, [0], made), False, made)
            self.assertIs(looked_over(problem, None, made), False, made)

    def test_other_words_and_lengths(self):
        part = ("bound", [0, 0], 1)
        for tree in ((), ("none",), ("bound",), ("cut",), ("bound", [0, 0]), ("bound", [0, 0], 1, 1),
                     ("none", [0, 0], 1), ("cut", 0, 2), ("cut", 0, 1, part), ("cut", 0, 1, part, part, part),
                     ("Bound", [0, 0], 1), ("", [0, 0], 1), ("most", [0, 0], 1), ([0, 0], 1, "bound"),
                     (None, [0, 0], 1), ("cut", [0, 0], 1), ("bound", 0, 1, part, part), (0, 0, 1, part, part),
                     (mock.ANY, [0, 0], 1), (["bound"], [0, 0], 1)):
            self.bad(tree)

    def test_things_that_are_no_tuples(self):
        for tree in (None, True, 0, "", "none", "bound", [], ["bound", [0, 0], 1], ["none", [0, 0]], {}, [0, 0]):
            self.bad(tree)

    def test_weights_that_are_no_lists(self):
        for weights in (None, 0, 1, "00", (0, 0), ((0, 0),), {0: 0, 1: 0}, [None, 0], ["0", "0"], [[0], [0]], [0.0, 0]):
            self.bad(("bound", weights, 1))
            self.bad(("none", weights))

    def test_points_that_are_no_lists(self):
        for point in (0, "0", (0,), {0: 0}, [None], ["0"], [[0]], [0.0], True):
            self.assertIs(looked_over(Problem([5], [], [0]), point, ("bound", [0, 0], 1)), False)


class DeepTreesTest(LookedOverTest):
    def test_as_deep_as_boxes_can_be_cut(self):
        problem = Problem([20] * 3, [], [1, 1, 1])
        part = tree = ("bound", [1, 0] * 3, 1)
        for unknown in range(3):
            for place in range(20):
                tree = ("cut", unknown, place, tree, part)
        # From the outside in the places fall: each tree below has one less than its greatest.
        self.good(problem, [20] * 3, tree)

    def test_far_deeper_than_boxes_can_be_cut(self):
        part = ("bound", [1, 0, 0], 2)
        for place in (0, 3, 19, -1, HUGE):
            for side in (3, 4):
                tree = part
                for _ in range(50000):
                    tree = changed(("cut", 0, place, part, part), side, tree)
                self.assertIs(looked_over(HALF, [3], tree), False)
                self.assertIs(looked_over(HALF, None, tree), False)


class NothingRaisedTest(LookedOverTest):
    def number(self, chance):
        return chance.choice((0, 0, 1, 1, 2, 3, 5, 19, 20, -1, -2, HUGE, -HUGE))

    def tree(self, chance, many, depth):
        words = ("none", "bound") if depth == 0 else ("none", "bound", "cut", "cut", "cut")
        word = chance.choice(words)
        if word == "cut":
            return (word, chance.choice((0, 0, 1, 2, self.number(chance))), self.number(chance),
                    self.tree(chance, many, depth - 1), self.tree(chance, many, depth - 1))
        length = chance.choice((many, many, many, many, chance.randint(0, 15)))
        weights = [chance.choice((0, 0, 0, 1, 1, 2, self.number(chance))) for _ in range(length)]
        return (word, weights) if word == "none" else (word, weights, chance.choice((1, 1, 2, self.number(chance))))

    def test_trees_by_chance(self):
        chance = random.Random(116)
        for problem in problems(117, 150, 3):
            for _ in range(40):
                many = len(problem.rows) + 2 * len(problem.tops)
                point = chance.choice((None, solved(problem)[0], [self.number(chance) for _ in range(
                    chance.choice((len(problem.tops), chance.randint(0, 5))))]))
                self.same(problem, point, self.tree(chance, many, chance.randint(0, 4)))


class AnewTest(LookedOverTest):
    def test_the_same_lists_with_other_numbers(self):
        point, weights = [3], [1, 0, 0]
        tree = ("bound", weights, 2)
        self.good(HALF, point, tree)
        point[0] = 2
        self.bad(HALF, point, tree)
        point[0] = 3
        self.good(HALF, point, tree)
        weights[1] = 1
        self.bad(HALF, point, tree)
        weights[0], weights[2] = 2, 1
        self.bad(HALF, point, tree)
        weights[:] = [1, 0, 0]
        self.good(HALF, point, tree)
        weights.append(0)
        self.bad(HALF, point, tree)

    def test_what_solved_told_and_was_then_changed(self):
        problem = three()
        point, tree = solved(problem)
        self.good(problem, point, tree)
        point[0] += 1
        self.assertIs(looked_over(problem, point, tree), is_answer(problem, point, tree))
        self.good(problem, *solved(problem))


class OtherPointsTest(LookedOverTest):
    def test_the_tree_of_an_answer_does_just_for_the_points_of_that_gain(self):
        for problem in problems(118, 60, 3):
            point, tree = solved(problem)
            most = None if point is None else at(problem.gain, point)
            for other in points(whole(problem)):
                wanted = fits(problem, other) and at(problem.gain, other) == most
                self.assertIs(looked_over(problem, other, tree), wanted)


if __name__ == "__main__":
    unittest.main()
