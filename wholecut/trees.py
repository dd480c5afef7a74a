"""Trees of boxes: the answer of a problem, and answers made by hand looked over."""

from wholecut.facts import are_weights, summed, whole_box
from wholecut.loose import loose
from wholecut.problems import gained, is_point, meets
from wholecut.wholes import is_whole, is_within, products_sum


def solved(problem):
    """A point of the greatest gain and a tree that no other gains more; or None and a tree that no point meets."""
    return grown(problem, whole_box(problem), None)


def grown(problem, box, best):
    """The best of this point (or None) and those of the box that meet the problem, and a tree of the box."""
    told = loose(problem, box)
    if told[0] == "none":
        return best, told
    _, (numbers, divisor), weights, scale = told
    if best is not None and products_sum(problem.gain, numbers) // divisor <= gained(problem, best):
        return best, ("bound", weights, scale)
    unknown = broken_unknown(numbers, divisor)
    if unknown is None:
        return [number // divisor for number in numbers], ("bound", weights, scale)
    at = numbers[unknown] // divisor
    best, below = grown(problem, box_below(box, unknown, at), best)
    best, above = grown(problem, box_above(box, unknown, at), best)
    return best, ("cut", unknown, at, below, above)


def broken_unknown(numbers, divisor):
    for unknown, number in enumerate(numbers):
        if number // divisor * divisor != number:
            return unknown
    return None


def box_below(box, unknown, at):
    return with_span(box, unknown, (box[unknown][0], at))


def box_above(box, unknown, at):
    return with_span(box, unknown, (at + 1, box[unknown][1]))


def with_span(box, unknown, span):
    return [span if place == unknown else old for place, old in enumerate(box)]


def looked_over(problem, point, tree):
    """Is it an answer of the problem? Nothing is refused: what is not as told is none."""
    if point is None:
        return is_tree(problem, whole_box(problem), tree, None)
    if not is_point(problem, point) or not meets(problem, point):
        return False
    return is_tree(problem, whole_box(problem), tree, gained(problem, point))


def is_tree(problem, box, tree, greatest):
    """Is it a tree of the box without a limit above the greatest, or, where that is None, without any bound?"""
    if is_part(tree, "none", 2):
        return shows_none(problem, box, tree[1])
    if is_part(tree, "bound", 3):
        return greatest is not None and shows_bound(problem, box, tree, greatest)
    if is_part(tree, "cut", 5):
        return is_cut(problem, box, tree, greatest)
    return False


def is_part(tree, word, length):
    if not isinstance(tree, tuple) or len(tree) != length:
        return False
    return isinstance(tree[0], str) and tree[0] == word


def shows_none(problem, box, weights):
    if not weigh_facts(problem, weights):
        return False
    numbers, bound = summed(problem, box, weights)
    return bound < 0 and not any(numbers)


def shows_bound(problem, box, tree, greatest):
    _, weights, scale = tree
    if not weigh_facts(problem, weights) or not is_whole(scale) or scale < 1:
        return False
    numbers, bound = summed(problem, box, weights)
    return numbers == tuple([scale * number for number in problem.gain]) and bound // scale <= greatest


def weigh_facts(problem, weights):
    return are_weights(weights, len(problem.rows) + 2 * len(problem.tops))


def is_cut(problem, box, tree, greatest):
    _, unknown, at, below, above = tree
    # Looked at ahead of the two trees: so no tree is followed further than boxes can be cut, however deep it is.
    if not is_within(unknown, 0, len(box) - 1) or not is_within(at, box[unknown][0], box[unknown][1] - 1):
        return False
    if not is_tree(problem, box_below(box, unknown, at), below, greatest):
        return False
    return is_tree(problem, box_above(box, unknown, at), above, greatest)
