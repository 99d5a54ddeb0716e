"""The object that the calls are made on. Each call's method gives back the list of what it answers."""

from linechanges.along import changes_along
from linechanges.lines import all_find_what_they_use, read_lines
from linechanges.ratio import read_fractions, weight
from linechanges.run import run_lines

OUT_OF_RANGE = -1
NOT_OF_THE_FORM = -2
NOT_THERE = -3
NO_POINT = -4
FAULT = -5
TOO_HEAVY = -6
TOO_MANY = -7

MOST_INPUTS = 12
MOST_LINES = 80
MOST_DIRECTIONS = 6
MOST_WEIGHT_TOLD = 4000


def told(fractions):
    """How many, then two numbers for each; or the refusal where one of them is too heavy to be told."""
    answer = [len(fractions)]
    for fraction in fractions:
        if weight(fraction) > MOST_WEIGHT_TOLD:
            return [TOO_HEAVY]
        answer.append(fraction[0])
        answer.append(fraction[1])
    return answer


class Holder:
    """Code over some inputs, a point or None, and directions."""

    def __init__(self):
        self.inputs = 0
        self.lines = []
        self.directions = []
        self.leave_point()

    def leave_point(self):
        self.point = None
        self.results = []
        self.fault = None
        self.known_changes = {}

    def stand_at(self, point):
        ran = run_lines(self.lines, point)
        self.point = point
        self.results = ran[0]
        self.fault = ran[1]
        self.known_changes = {}

    def has_line(self, i):
        return 0 <= i and i < len(self.lines)

    def has_direction(self, d):
        return 0 <= d and d < len(self.directions)

    def run_refusal(self):
        """The refusal of a call that needs a run without a fault, or 0 where there is such a run."""
        if self.point is None:
            return NO_POINT
        if self.fault is not None:
            return FAULT
        return 0

    def changes_of_all(self, d):
        # Many calls may ask along one direction at one point: the lines are gone through only once.
        if d not in self.known_changes:
            self.known_changes[d] = changes_along(self.lines, self.results, self.directions[d])
        return self.known_changes[d]

    def take_code(self, inputs, numbers):
        if inputs < 0 or inputs > MOST_INPUTS:
            return [OUT_OF_RANGE]
        lines = read_lines(numbers)
        if lines is None:
            return [NOT_OF_THE_FORM]
        if len(lines) > MOST_LINES:
            return [TOO_MANY]
        if not all_find_what_they_use(lines, inputs):
            return [NOT_THERE]
        self.inputs = inputs
        self.lines = lines
        self.directions = []
        self.leave_point()
        return [len(lines)]

    def take_point(self, numbers):
        point = read_fractions(numbers, self.inputs)
        if point is None:
            return [NOT_OF_THE_FORM]
        self.stand_at(point)
        if self.fault is None:
            return [0]
        return [1, self.fault[0], self.fault[1]]

    def take_direction(self, numbers):
        direction = read_fractions(numbers, self.inputs)
        if direction is None:
            return [NOT_OF_THE_FORM]
        if len(self.directions) >= MOST_DIRECTIONS:
            return [TOO_MANY]
        self.directions.append(direction)
        return [len(self.directions) - 1]

    def drop_directions(self):
        how_many = len(self.directions)
        self.directions = []
        self.known_changes = {}
        return [how_many]

    def tell_value(self, i):
        if not self.has_line(i):
            return [OUT_OF_RANGE]
        refusal = self.run_refusal()
        if refusal < 0:
            return [refusal]
        return told([self.results[i]])

    def tell_values(self):
        refusal = self.run_refusal()
        if refusal < 0:
            return [refusal]
        return told(self.results)

    def tell_change(self, i, d):
        if not self.has_line(i) or not self.has_direction(d):
            return [OUT_OF_RANGE]
        refusal = self.run_refusal()
        if refusal < 0:
            return [refusal]
        return told([self.changes_of_all(d)[i]])

    def tell_changes(self, d):
        if not self.has_direction(d):
            return [OUT_OF_RANGE]
        refusal = self.run_refusal()
        if refusal < 0:
            return [refusal]
        return told(self.changes_of_all(d))
