"""Promise 10: hangs."""

import unittest

from calling import (CONSTANT, DIFFERENCE, INPUT, LARGEST, OPPOSITE, PRODUCT, QUOTIENT, SUM,
                     ask, clear, code, direction, hangs, last, point, value)

KINDS_OF_TWO = (SUM, DIFFERENCE, PRODUCT, QUOTIENT)


class Hanging(unittest.TestCase):
    def test_inputs_and_constants(self):
        begin = code(3, [INPUT, 2], [CONSTANT, 2, 1], [INPUT, 0])
        self.assertEqual(ask(begin, hangs(0), hangs(1), hangs(2))[1:], [[1, 2], [0], [1, 0]])

    def test_each_kind_of_two(self):
        for kind in KINDS_OF_TWO:
            begin = code(2, [INPUT, 0], [INPUT, 1], [CONSTANT, 1, 1], [kind, 0, 1], [kind, 0, 2], [kind, 2, 1],
                         [kind, 2, 2])
            self.assertEqual(ask(begin, *[hangs(i) for i in range(3, 7)])[1:], [[2, 0, 1], [1, 0], [1, 1], [0]])

    def test_an_opposite(self):
        begin = code(2, [INPUT, 1], [OPPOSITE, 0], [CONSTANT, 0, 1], [OPPOSITE, 2])
        self.assertEqual(ask(begin, hangs(1), hangs(3))[1:], [[1, 1], [0]])

    def test_a_line_made_of_one_line_twice(self):
        for kind in KINDS_OF_TWO:
            self.assertEqual(last(code(2, [INPUT, 1], [kind, 0, 0]), hangs(1)), [1, 1])

    def test_it_is_told_from_the_code_alone(self):
        # x - x and 0 * x never change, and still hang on x.
        begin = code(1, [INPUT, 0], [DIFFERENCE, 0, 0], [CONSTANT, 0, 1], [PRODUCT, 2, 0])
        self.assertEqual(ask(begin, hangs(1), hangs(3))[1:], [[1, 0], [1, 0]])

    def test_increasing_and_each_once(self):
        lines = [[INPUT, k] for k in (11, 3, 7, 3, 0, 11)] + [[SUM, 0, 1]]
        for place in range(2, 6):
            lines.append([SUM, len(lines) - 1, place])
        told = ask(code(12, *lines), *[hangs(i) for i in range(6, 11)])
        self.assertEqual(told[1:], [[2, 3, 11], [3, 3, 7, 11], [3, 3, 7, 11], [4, 0, 3, 7, 11], [4, 0, 3, 7, 11]])

    def test_12_inputs(self):
        lines = [[INPUT, 11 - k] for k in range(12)] + [[PRODUCT, 0, 1]]
        for place in range(2, 12):
            lines.append([PRODUCT, place, len(lines) - 1])
        self.assertEqual(last(code(12, *lines), hangs(len(lines) - 1)), [12] + list(range(12)))

    def test_a_constant_s_numbers_are_no_lines_and_no_inputs(self):
        self.assertEqual(last(code(2, [INPUT, 1], [INPUT, 0], [CONSTANT, 0, 1], [OPPOSITE, 2]), hangs(3)), [0])

    def test_an_input_s_number_is_no_line(self):
        # Line 2 is input 1, and line 1 another one.
        self.assertEqual(last(code(3, [INPUT, 0], [INPUT, 2], [INPUT, 1], [OPPOSITE, 2]), hangs(3)), [1, 1])

    def test_over_80_lines(self):
        lines = [[INPUT, 1], [INPUT, 0]] + [[SUM, k, k + 1] for k in range(78)]
        self.assertEqual(last(code(2, *lines), hangs(79)), [2, 0, 1])
        lines = [[INPUT, 1], [INPUT, 0]] + [[OPPOSITE, k] for k in range(78)]
        self.assertEqual(ask(code(2, *lines), hangs(78), hangs(79))[1:], [[1, 1], [1, 0]])


class WithoutARun(unittest.TestCase):
    def test_no_point_is_needed(self):
        self.assertEqual(last(code(1, [INPUT, 0], [OPPOSITE, 0]), hangs(1)), [1, 0])

    def test_a_fault_at_the_point_is_no_hindrance(self):
        told = ask(code(2, [INPUT, 1], [QUOTIENT, 0, 0], [INPUT, 0], [SUM, 1, 2]), point(1, 1, 0, 1), hangs(0),
                   hangs(1), hangs(3))
        self.assertEqual(told[1:], [[1, 1, 1], [1, 1], [1, 1], [2, 0, 1]])

    def test_the_code_is_that_of_now(self):
        told = ask(code(2, [INPUT, 0]), hangs(0), code(2, [INPUT, 1]), hangs(0), code(2, [INPUT, 2]), hangs(0))
        self.assertEqual(told[1:], [[1, 0], [1], [1, 1], [-3], [1, 1]])

    def test_everything_is_as_it_was(self):
        told = ask(code(1, [INPUT, 0]), point(4, 1), direction(1, 1), hangs(0), hangs(1), value(0), clear())
        self.assertEqual(told[3:], [[1, 0], [-1], [1, 4, 1], [1]])


class Refusals(unittest.TestCase):
    def test_a_line_that_is_not_there(self):
        for i in (-1, 2, LARGEST, -LARGEST):
            self.assertEqual(last(code(1, [INPUT, 0], [OPPOSITE, 0]), hangs(i)), [-1])
        self.assertEqual(last(hangs(0)), [-1])
        self.assertEqual(last(code(3), hangs(0)), [-1])


if __name__ == "__main__":
    unittest.main()
