"""Boxes, their facts, and the one fact to which weights sum them."""

from wholecut.errors import BadBox, BadWeights
from wholecut.wholes import is_whole, is_within, products_sum


def whole_box(problem):
    """The box in which each unknown is from 0 to its top."""
    return [(0, top) for top in problem.tops]


def facts(problem, box):
    """The facts of the rows, then two for each unknown: its greatest and its least in the box."""
    check_box(problem, box)
    told = [row_fact(row) for row in problem.rows]
    for unknown, (least, greatest) in enumerate(box):
        told.append((only(unknown, 1, len(box)), greatest))
        told.append((only(unknown, -1, len(box)), -least))
    return told


def summed(problem, box, weights):
    """The one fact that adds up the facts of the box, each as often as its weight."""
    told = facts(problem, box)
    check_weights(weights, len(told))
    numbers = [products_sum(weights, [fact[0][unknown] for fact in told]) for unknown in range(len(box))]
    return tuple(numbers), products_sum(weights, [fact[1] for fact in told])


def row_fact(row):
    numbers, word, bound = row
    if word == "most":
        return numbers, bound
    return tuple([-number for number in numbers]), -bound


def only(unknown, number, unknowns):
    # The number for the one unknown, and nought for the others.
    return tuple([number if place == unknown else 0 for place in range(unknowns)])


def check_box(problem, box):
    if not is_box(problem, box):
        raise BadBox("a box is a list of pairs from 0 to the tops, one for each unknown")


def is_box(problem, box):
    if not isinstance(box, list) or len(box) != len(problem.tops):
        return False
    return all([is_span(span, top) for span, top in zip(box, problem.tops)])


def is_span(span, top):
    if not isinstance(span, tuple) or len(span) != 2:
        return False
    least, greatest = span
    return is_within(least, 0, top) and is_within(greatest, least, top)


def check_weights(weights, many):
    if not are_weights(weights, many):
        raise BadWeights("weights are a list of whole numbers from nought on, one for each fact")


def are_weights(weights, many):
    if not isinstance(weights, list) or len(weights) != many:
        return False
    return all([is_whole(weight) and weight >= 0 for weight in weights])
