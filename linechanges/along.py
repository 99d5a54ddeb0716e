"""The changes of lines along a direction, at a point where the run has no fault."""

from linechanges.lines import CONSTANT, DIFFERENCE, INPUT, OPPOSITE, PRODUCT, SUM
from linechanges.ratio import ZERO, difference, opposite, product, quotient, total


def product_change(x, x_change, y, y_change):
    return total(product(x_change, y), product(x, y_change))


def quotient_change(value, x_change, y, y_change):
    """The change of x / y, value being that quotient."""
    return quotient(difference(x_change, product(value, y_change)), y)


def line_change(lines, place, results, direction, found):
    """The change of one line; results has all values, found the changes of the earlier lines."""
    line = lines[place]
    kind = line[0]
    if kind == INPUT:
        return direction[line[1]]
    if kind == CONSTANT:
        return ZERO
    first = found[line[1]]
    if kind == OPPOSITE:
        return opposite(first)
    second = found[line[2]]
    if kind == SUM:
        return total(first, second)
    if kind == DIFFERENCE:
        return difference(first, second)
    if kind == PRODUCT:
        return product_change(results[line[1]], first, results[line[2]], second)
    return quotient_change(results[place], first, results[line[2]], second)


def changes_along(lines, results, direction):
    """The changes of all lines, in order."""
    found = []
    for place in range(len(lines)):
        found.append(line_change(lines, place, results, direction, found))
    return found
