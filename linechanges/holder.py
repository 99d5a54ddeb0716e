"""The object that the calls are made on. Each call's method gives back the list of what it answers."""

from linechanges.lines import all_find_what_they_use, read_lines
from linechanges.ratio import ONE, ZERO, difference, in_lowest_terms, quotient, read_fractions, weight
from linechanges.run import moved, run_lines
from linechanges.series import Series
from linechanges.uses import cost_of_direction, how_many_operations, inputs_behind

OUT_OF_RANGE = -1
NOT_OF_THE_FORM = -2
NOT_THERE = -3
NO_POINT = -4
FAULT = -5
TOO_HEAVY = -6
TOO_MANY = -7

MOST_INPUTS = 12
MOST_LINES = 80
MOST_DIRECTIONS = 6
MOST_LINES_OF_TABLE = 12
MOST_COEFFICIENTS = 8
MOST_WEIGHT = 4000


def has_heavy(fractions):
    for fraction in fractions:
        if weight(fraction) > MOST_WEIGHT:
            return True
    return False


def told(fractions):
    """How many, then two numbers for each; or the refusal where one of them is too heavy to be told."""
    if has_heavy(fractions):
        return [TOO_HEAVY]
    answer = [len(fractions)]
    for fraction in fractions:
        answer.append(fraction[0])
        answer.append(fraction[1])
    return answer


class Holder:
    """Code over some inputs, a point or None, and directions."""

    def __init__(self):
        self.inputs = 0
        self.lines = []
        self.directions = []
        self.leave_point()

    def leave_point(self):
        self.point = None
        self.results = []
        self.fault = None
        self.forget_series()

    def stand_at(self, point):
        ran = run_lines(self.lines, point)
        self.point = point
        self.results = ran[0]
        self.fault = ran[1]
        self.forget_series()

    def forget_series(self):
        self.known_along = {}
        self.known_partial = {}

    def has_line(self, i):
        return 0 <= i and i < len(self.lines)

    def has_direction(self, d):
        return 0 <= d and d < len(self.directions)

    def run_refusal(self):
        """The refusal of a call that needs a run without a fault, or 0 where there is such a run."""
        if self.point is None:
            return NO_POINT
        if self.fault is not None:
            return FAULT
        return 0

    def along(self, d):
        # Many calls may ask along one direction at one point: what was reckoned once is kept until either changes.
        if d not in self.known_along:
            self.known_along[d] = Series(self.lines, self.results, self.directions[d])
        return self.known_along[d]

    def along_input(self, k):
        if k not in self.known_partial:
            direction = [ZERO] * self.inputs
            direction[k] = ONE
            self.known_partial[k] = Series(self.lines, self.results, direction)
        return self.known_partial[k]

    def partials(self, i):
        return [self.along_input(k).change_of(i) for k in range(self.inputs)]

    def take_code(self, inputs, numbers):
        if inputs < 0 or inputs > MOST_INPUTS:
            return [OUT_OF_RANGE]
        lines = read_lines(numbers)
        if lines is None:
            return [NOT_OF_THE_FORM]
        if len(lines) > MOST_LINES:
            return [TOO_MANY]
        if not all_find_what_they_use(lines, inputs):
            return [NOT_THERE]
        self.inputs = inputs
        self.lines = lines
        self.directions = []
        self.leave_point()
        return [len(lines)]

    def take_point(self, numbers):
        point = read_fractions(numbers, self.inputs)
        if point is None:
            return [NOT_OF_THE_FORM]
        self.stand_at(point)
        return self.tell_fault()

    def tell_fault(self):
        if self.fault is None:
            return [0]
        return [1, self.fault[0], self.fault[1]]

    def take_direction(self, numbers):
        direction = read_fractions(numbers, self.inputs)
        if direction is None:
            return [NOT_OF_THE_FORM]
        if len(self.directions) >= MOST_DIRECTIONS:
            return [TOO_MANY]
        self.directions.append(direction)
        return [len(self.directions) - 1]

    def drop_directions(self):
        how_many = len(self.directions)
        self.directions = []
        self.known_along = {}
        return [how_many]

    def tell_value(self, i):
        if not self.has_line(i):
            return [OUT_OF_RANGE]
        refusal = self.run_refusal()
        if refusal < 0:
            return [refusal]
        return told([self.results[i]])

    def tell_values(self):
        refusal = self.run_refusal()
        if refusal < 0:
            return [refusal]
        return told(self.results)

    def tell_change(self, i, d):
        if not self.has_line(i) or not self.has_direction(d):
            return [OUT_OF_RANGE]
        refusal = self.run_refusal()
        if refusal < 0:
            return [refusal]
        return told([self.along(d).change_of(i)])

    def tell_changes(self, d):
        if not self.has_direction(d):
            return [OUT_OF_RANGE]
        refusal = self.run_refusal()
        if refusal < 0:
            return [refusal]
        return told([self.along(d).change_of(i) for i in range(len(self.lines))])

    def tell_gradient(self, i):
        if not self.has_line(i):
            return [OUT_OF_RANGE]
        refusal = self.run_refusal()
        if refusal < 0:
            return [refusal]
        return told(self.partials(i))

    def tell_table(self, places):
        if len(places) > MOST_LINES_OF_TABLE or not all([self.has_line(i) for i in places]):
            return [NOT_OF_THE_FORM]
        refusal = self.run_refusal()
        if refusal < 0:
            return [refusal]
        fractions = []
        for i in places:
            fractions.extend(self.partials(i))
        return told(fractions)

    def move(self, d, n, m):
        if not self.has_direction(d) or m < 1:
            return [OUT_OF_RANGE]
        if self.point is None:
            return [NO_POINT]
        point = moved(self.point, self.directions[d], in_lowest_terms(n, m))
        if has_heavy(point):
            return [TOO_HEAVY]
        self.stand_at(point)
        return self.tell_fault()

    def tell_quotient(self, i, d, n, m):
        if not self.has_line(i) or not self.has_direction(d) or n == 0 or m < 1:
            return [OUT_OF_RANGE]
        refusal = self.run_refusal()
        if refusal < 0:
            return [refusal]
        step = in_lowest_terms(n, m)
        there = run_lines(self.lines, moved(self.point, self.directions[d], step))
        if there[1] is not None:
            return [FAULT]
        slope = quotient(difference(there[0][i], self.results[i]), step)
        return told([slope, difference(slope, self.along(d).change_of(i))])

    def tell_series(self, i, d, k):
        if not self.has_line(i) or not self.has_direction(d) or k < 1 or k > MOST_COEFFICIENTS:
            return [OUT_OF_RANGE]
        refusal = self.run_refusal()
        if refusal < 0:
            return [refusal]
        return told(self.along(d).first_coefficients(i, k))

    def tell_hangs(self, i):
        if not self.has_line(i):
            return [OUT_OF_RANGE]
        inputs = inputs_behind(self.lines, i)
        return [len(inputs)] + inputs

    def tell_cost(self):
        one = cost_of_direction(self.lines)
        return [how_many_operations(self.lines), one, one * len(self.directions)]
