"""The series of lines along a direction, from a point where the run has no fault.

The coefficient number 1 of a line's series is reckoned just as its change is: changes are told from here too.
"""

from linechanges.lines import CONSTANT, DIFFERENCE, INPUT, OPPOSITE, PRODUCT, SUM
from linechanges.ratio import ONE, ZERO, difference, opposite, quotient, sum_of_products, total
from linechanges.uses import lines_behind


def product_coefficient(first, second, r):
    return sum_of_products([(first[s], second[r - s]) for s in range(r + 1)])


def quotient_coefficient(own, first, second):
    """The coefficient of first over second that comes behind own, which are those before it."""
    r = len(own)
    pairs = [(first[r], ONE)]
    for s in range(r):
        pairs.append((opposite(own[s]), second[r - s]))
    return quotient(sum_of_products(pairs), second[0])


def next_coefficient(line, own, made, direction):
    """The line's coefficient that comes behind own (at least its value); made has those of the earlier lines."""
    kind = line[0]
    r = len(own)
    if kind == INPUT:
        return direction[line[1]] if r == 1 else ZERO
    if kind == CONSTANT:
        return ZERO
    first = made[line[1]]
    if kind == OPPOSITE:
        return opposite(first[r])
    second = made[line[2]]
    if kind == SUM:
        return total(first[r], second[r])
    if kind == DIFFERENCE:
        return difference(first[r], second[r])
    if kind == PRODUCT:
        return product_coefficient(first, second, r)
    return quotient_coefficient(own, first, second)


class Series:
    """The series of all lines along one direction, each made only as far as it was asked for."""

    def __init__(self, lines, results, direction):
        self.lines = lines
        self.direction = direction
        self.made = [[value] for value in results]

    def make(self, i, how_many):
        """So many coefficients of line i are there now, and of the lines that it's made of."""
        if len(self.made[i]) >= how_many:
            return
        for place in lines_behind(self.lines, i):
            own = self.made[place]
            while len(own) < how_many:
                own.append(next_coefficient(self.lines[place], own, self.made, self.direction))

    def first_coefficients(self, i, how_many):
        self.make(i, how_many)
        return self.made[i][:how_many]

    def change_of(self, i):
        self.make(i, 2)
        return self.made[i][1]
