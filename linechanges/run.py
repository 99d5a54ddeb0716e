"""Points, and running line code at them: the lines' values, or the first fault."""

from linechanges.lines import CONSTANT, DIFFERENCE, INPUT, OPPOSITE, PRODUCT, QUOTIENT, SUM
from linechanges.ratio import ZERO, difference, in_lowest_terms, opposite, product, quotient, total, weight

DIVISOR_IS_ZERO = 1
VALUE_TOO_HEAVY = 2
MOST_WEIGHT = 200


def line_value(line, point, found):
    """The value of a line whose divisor, if it has one, isn't 0; found has the values of the earlier lines."""
    kind = line[0]
    if kind == INPUT:
        return point[line[1]]
    if kind == CONSTANT:
        return in_lowest_terms(line[1], line[2])
    first = found[line[1]]
    if kind == OPPOSITE:
        return opposite(first)
    second = found[line[2]]
    if kind == SUM:
        return total(first, second)
    if kind == DIFFERENCE:
        return difference(first, second)
    if kind == PRODUCT:
        return product(first, second)
    return quotient(first, second)


def run_lines(lines, point):
    """The values up to the first fault, and that fault as (line, its number), or None if there is none."""
    found = []
    for place, line in enumerate(lines):
        if line[0] == QUOTIENT and found[line[2]] == ZERO:
            return (found, (place, DIVISOR_IS_ZERO))
        value = line_value(line, point, found)
        if weight(value) > MOST_WEIGHT:
            return (found, (place, VALUE_TOO_HEAVY))
        found.append(value)
    return (found, None)


def moved(point, direction, step):
    """The point plus step times the direction."""
    return [total(here, product(step, way)) for here, way in zip(point, direction)]
