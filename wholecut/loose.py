"""A box loosened: the most that fractions gain which meet its facts, or weights that show that none meet them."""

from wholecut.facts import facts
from wholecut.tables import turned
from wholecut.wholes import products_sum


def loose(problem, box):
    """("none", weights) or ("most", spot, weights, scale) of the box."""
    corner = Corner(problem, facts(problem, box))
    while True:
        row = corner.missed_row()
        if row is None:
            return "most", (corner.numbers(problem, box), corner.scale), corner.gain_weights(), corner.scale
        column = corner.column_for(row)
        if column is None:
            return "none", corner.none_weights(row)
        corner.move(row, column)


class Corner:
    """A spot at which as many facts as there are unknowns are tight, and a table of how all else hangs on these.

    All numbers of the table are over the scale, as in wholecut.tables.
    The slack of a fact is its bound less its sum: nought where the fact is tight, below nought where it is missed.
    Each row of the table but the last is for one of the other facts: its slack is the last number of the row less the
    slacks of the tight facts, each times the number in its column. The last row tells the gain likewise. Its numbers
    for the tight facts are never below nought, so no spot that meets the tight facts gains more.
    """

    def __init__(self, problem, told):
        first = len(problem.rows)
        # The end of its bounds at which an unknown gains most: the one way to begin with no number below nought.
        self.tight = [first + 2 * unknown + (0 if number >= 0 else 1) for unknown, number in enumerate(problem.gain)]
        self.others = [fact for fact in range(len(told)) if fact not in self.tight]
        signs = [told[fact][0][unknown] for unknown, fact in enumerate(self.tight)]
        ends = [sign * told[fact][1] for sign, fact in zip(signs, self.tight)]
        self.table = [slack_line(told[fact], signs, ends) for fact in self.others]
        self.table.append(gain_line(problem.gain, signs, ends))
        self.scale = 1

    # Where several rows or several columns would do, the one of the first fact is taken: otherwise the corners could
    # come round, again and again, to one that was left.

    def missed_row(self):
        """The row of a fact that is missed; None where all are met, so that nothing gains more than the corner."""
        rows = [row for row in range(len(self.others)) if self.table[row][-1] < 0]
        return min(rows, key=lambda place: self.others[place], default=None)

    def column_for(self, row):
        """The column of the tight fact in whose stead the fact of the row is to be tight.

        None where letting go of any tight fact only makes that of the row be missed by more: so they can't all be met.
        """
        line, gains = self.table[row], self.table[-1]
        found = None
        # The one that costs the least gain for what it mends: any other leaves a number below nought in the last row.
        for column in sorted(range(len(self.tight)), key=lambda place: self.tight[place]):
            if line[column] < 0 and (found is None or gains[column] * line[found] > gains[found] * line[column]):
                found = column
        return found

    def move(self, row, column):
        self.table, self.scale = turned(self.table, self.scale, row, column)
        self.others[row], self.tight[column] = self.tight[column], self.others[row]

    def numbers(self, problem, box):
        """The unknowns at the corner, each times the scale: its least in the box and the slack of that fact."""
        slacks = {fact: self.table[row][-1] for row, fact in enumerate(self.others)}
        first = len(problem.rows) + 1
        return [span[0] * self.scale + slacks.get(first + 2 * unknown, 0) for unknown, span in enumerate(box)]

    def gain_weights(self):
        return self.weights(self.table[-1])

    def none_weights(self, row):
        told = self.weights(self.table[row])
        told[self.others[row]] = self.scale
        return told

    def weights(self, line):
        told = [0] * (len(self.tight) + len(self.others))
        for column, fact in enumerate(self.tight):
            told[fact] = line[column]
        return told


def slack_line(fact, signs, ends):
    numbers, bound = fact
    line = [-number * sign for number, sign in zip(numbers, signs)]
    return line + [bound - products_sum(numbers, ends)]


def gain_line(gain, signs, ends):
    line = [number * sign for number, sign in zip(gain, signs)]
    return line + [products_sum(gain, ends)]
