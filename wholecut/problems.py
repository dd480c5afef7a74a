"""Problems of tops, rows and a gain, and points: whether they meet a problem and what they gain."""

from wholecut.errors import BadPoint, BadProblem
from wholecut.wholes import are_within, is_whole, is_within, products_sum

MOST_UNKNOWNS = 3
GREATEST_TOP = 20
MOST_ROWS = 6
GREATEST_NUMBER = 50
GREATEST_BOUND = 2000


class Problem:
    """Tops, one for each unknown; rows that are to be met; and the numbers of the gain."""

    def __init__(self, tops, rows, gain):
        if not is_problem(tops, rows, gain):
            raise BadProblem("these tops, rows and gain are no problem")
        self.tops = list(tops)
        self.rows = list(rows)
        self.gain = list(gain)


def is_problem(tops, rows, gain):
    # The tops come first: the others are measured by how many there are.
    return are_tops(tops) and are_rows(rows, len(tops)) and is_gain(gain, len(tops))


def are_tops(tops):
    if not isinstance(tops, list):
        return False
    return 1 <= len(tops) <= MOST_UNKNOWNS and are_within(tops, 0, GREATEST_TOP)


def are_rows(rows, unknowns):
    if not isinstance(rows, list) or len(rows) > MOST_ROWS:
        return False
    return all([is_row(row, unknowns) for row in rows])


def is_row(row, unknowns):
    if not isinstance(row, tuple) or len(row) != 3:
        return False
    numbers, word, bound = row
    if not isinstance(numbers, tuple) or not are_numbers(numbers, unknowns):
        return False
    return is_word(word) and is_within(bound, -GREATEST_BOUND, GREATEST_BOUND)


def is_word(word):
    return isinstance(word, str) and word in ("most", "least")


def is_gain(gain, unknowns):
    return isinstance(gain, list) and are_numbers(gain, unknowns)


def are_numbers(numbers, unknowns):
    return len(numbers) == unknowns and are_within(numbers, -GREATEST_NUMBER, GREATEST_NUMBER)


def is_point(problem, point):
    if not isinstance(point, list) or len(point) != len(problem.tops):
        return False
    return all([is_whole(number) for number in point])


def check_point(problem, point):
    if not is_point(problem, point):
        raise BadPoint("a point is a list of as many whole numbers as there are unknowns")


def meets(problem, point):
    """Is each number of the point from 0 to its top, and does each row hold there?"""
    check_point(problem, point)
    if not all([is_within(number, 0, top) for number, top in zip(point, problem.tops)]):
        return False
    return all([holds(row, point) for row in problem.rows])


def holds(row, point):
    numbers, word, bound = row
    total = products_sum(numbers, point)
    if word == "most":
        return total <= bound
    return total >= bound


def gained(problem, point):
    """What the point gains, also where it does not meet the problem."""
    check_point(problem, point)
    return products_sum(problem.gain, point)
