"""Tables of fractions over one scale, turned about one of their numbers."""

from math import gcd

from wholecut.errors import NoTurn


def turned(table, scale, row, column):
    """A new table and its scale: the table over the scale, turned about the number in the row and the column."""
    about = table[row][column]
    if about == 0:
        raise NoTurn("a table is turned about a number that is not nought")
    told = [other_row(line, table[row], scale, column) for line in table]
    told[row] = about_row(table[row], scale, column)
    return reduced(told, scale * about)


# Both tell the numbers over the scale times the number turned about: so all of them are whole.

def about_row(line, scale, column):
    told = [number * scale for number in line]
    told[column] = scale * scale
    return told


def other_row(line, about_line, scale, column):
    about, part = about_line[column], line[column]
    told = [number * about - beside * part for number, beside in zip(line, about_line)]
    told[column] = -part * scale
    return told


def reduced(table, scale):
    # Without a common divisor: otherwise the numbers would have twice as many figures after each turning.
    common = scale
    for line in table:
        for number in line:
            common = gcd(common, number)
    # The scale is told from 1 on, whatever sign the number turned about gave it.
    divisor = common if scale > 0 else -common
    return [[number // divisor for number in line] for line in table], scale // divisor
