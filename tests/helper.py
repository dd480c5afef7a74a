"""What several test files share: things that are no numbers, sample problems, the test of a refusal, and an own
account of facts and trees, written anew from the document so that the program is not measured by itself."""

import itertools
import random
import unittest
from fractions import Fraction
from math import floor

from wholecut.errors import CutError
from wholecut.problems import Problem

HUGE = 10 ** 60

# In the place of a number each of these is refused, wherever it stands.
NO_NUMBERS = (True, False, "1", None, 1.0, [1], (1,), b"1")

# In the place of a list of numbers or of pairs each of these is refused.
NO_LISTS = (None, True, 0, 1, "", "1", {}, {0: 1}, ())

WORDS = ("most", "least")


def three():
    """A problem of three unknowns, with rows of both words."""
    rows = [((2, -3, 0), "most", 7), ((1, 1, 1), "least", 2), ((-50, 0, 50), "least", -2000)]
    return Problem([4, 3, 2], rows, [5, -1, 2])


def changed(told, place, thing):
    """A copy of a list or tuple with another thing at the place."""
    items = list(told)
    items[place] = thing
    return tuple(items) if isinstance(told, tuple) else items


def at(numbers, others):
    return sum(number * other for number, other in zip(numbers, others, strict=True))


def fields(problem):
    return list(problem.tops), list(problem.rows), list(problem.gain)


def whole(problem):
    return [(0, top) for top in problem.tops]


def points(box):
    return [list(point) for point in itertools.product(*[range(least, greatest + 1) for least, greatest in box])]


def fits(problem, point):
    """Whether a point of the box meets the rows."""
    return all(at(numbers, point) <= bound if word == "most" else at(numbers, point) >= bound
               for numbers, word, bound in problem.rows)


def best_gain(problem, box):
    """The greatest gain in the box, all points tried one by one; None where none meets the rows."""
    return max((at(problem.gain, point) for point in points(box) if fits(problem, point)), default=None)


def own_facts(problem, box):
    told = [(numbers, bound) if word == "most" else (tuple(-number for number in numbers), -bound)
            for numbers, word, bound in problem.rows]
    for unknown, (least, greatest) in enumerate(box):
        one = [0] * len(box)
        told += [(tuple(changed(one, unknown, 1)), greatest), (tuple(changed(one, unknown, -1)), -least)]
    return told


def own_sum(problem, box, weights):
    """The facts summed by the weights, or None where these are none."""
    told = own_facts(problem, box)
    if type(weights) is not list or len(weights) != len(told):
        return None
    if not all(type(weight) is int and weight >= 0 for weight in weights):
        return None
    columns = list(zip(*[numbers for numbers, _ in told]))
    return [at(weights, column) for column in columns], at(weights, [bound for _, bound in told])


def shows_none(problem, box, weights):
    told = own_sum(problem, box, weights)
    return told is not None and set(told[0]) == {0} and told[1] < 0


def limit(problem, box, weights, scale):
    """The limit of a bound, or None where it is none."""
    told = own_sum(problem, box, weights)
    if told is None or type(scale) is not int or scale < 1:
        return None
    return floor(Fraction(told[1], scale)) if told[0] == [scale * number for number in problem.gain] else None


def cut_boxes(box, unknown, place):
    least, greatest = box[unknown]
    return changed(box, unknown, (least, place)), changed(box, unknown, (place + 1, greatest))


def is_answer(problem, point, tree):
    """Points 9 and 10 of the document, of a point and a tree of the kinds that point 11 speaks of."""
    if point is None:
        return is_tree(problem, whole(problem), tree, None)
    if len(point) != len(problem.tops) or not fits(problem, point):
        return False
    if not all(0 <= number <= top for number, top in zip(point, problem.tops)):
        return False
    return is_tree(problem, whole(problem), tree, at(problem.gain, point))


def is_tree(problem, box, tree, greatest):
    if tree[0] == "none":
        return shows_none(problem, box, tree[1])
    if tree[0] == "bound":
        told = limit(problem, box, tree[1], tree[2])
        return told is not None and greatest is not None and told <= greatest
    _, unknown, place, below, above = tree
    if unknown not in range(len(box)) or place not in range(*box[unknown]):
        return False
    first, second = cut_boxes(box, unknown, place)
    return is_tree(problem, first, below, greatest) and is_tree(problem, second, above, greatest)


def parts(tree):
    """All parts of a tree, the whole first."""
    if tree[0] != "cut":
        return [tree]
    return [tree] + parts(tree[3]) + parts(tree[4])


def with_part(tree, number, thing):
    """The tree with another thing in the place of the part of that number in parts(tree)."""
    if number == 0:
        return thing
    many = len(parts(tree[3]))
    if number <= many:
        return changed(tree, 3, with_part(tree[3], number - 1, thing))
    return changed(tree, 4, with_part(tree[4], number - 1 - many, thing))


def part_box(problem, tree, number):
    """The box of the part of that number in parts(tree)."""
    box = whole(problem)
    while number > 0:
        first, second = cut_boxes(box, tree[1], tree[2])
        many = len(parts(tree[3]))
        if number <= many:
            box, tree, number = first, tree[3], number - 1
        else:
            box, tree, number = second, tree[4], number - 1 - many
    return box


def near_problem(chance, unknowns, top):
    """A problem of none to six rows whose bounds lie near what some point within the tops has as its sums."""
    tops = [chance.choice((0, 1, top, top, chance.randint(0, top))) for _ in range(unknowns)]
    most = chance.choice((1, 3, 10, 50))
    middle = [chance.randint(0, number) for number in tops]
    rows = []
    for _ in range(chance.randint(0, 6)):
        numbers = tuple(chance.randint(-most, most) for _ in range(unknowns))
        bound = at(numbers, middle) + chance.randint(-most, most)
        rows.append((numbers, chance.choice(WORDS), max(-2000, min(2000, bound))))
    return Problem(tops, rows, [chance.randint(-most, most) for _ in range(unknowns)])


def far_problem(chance, unknowns, top):
    """A problem with numbers and bounds at the ends of what point 2 allows, and with noughts."""
    tops = [chance.choice((0, 1, top)) for _ in range(unknowns)]
    rows = [(tuple(chance.choice((-50, -49, 0, 1, 50)) for _ in range(unknowns)), chance.choice(WORDS),
             chance.choice((-2000, -1999, -1, 0, 1, 1999, 2000))) for _ in range(chance.randint(0, 6))]
    return Problem(tops, rows, [chance.choice((-50, 0, 1, 50)) for _ in range(unknowns)])


def problems(seed, many, top):
    """Many problems of one to three unknowns, the same ones each time."""
    chance = random.Random(seed)
    return [chance.choice((near_problem, near_problem, far_problem))(chance, chance.randint(1, 3), top)
            for _ in range(many)]


def lesser_box(chance, problem):
    return [tuple(sorted((chance.randint(0, top), chance.randint(0, top)))) for top in problem.tops]


class RefusalTest(unittest.TestCase):
    def refused(self, error, action, *told):
        """The action is refused by this very class, which CutError and ValueError take too."""
        with self.assertRaises(ValueError, msg=repr(told)) as caught:
            action(*told)
        self.assertIs(type(caught.exception), error, repr(told))
        self.assertIsInstance(caught.exception, CutError)
