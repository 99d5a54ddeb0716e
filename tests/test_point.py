"""Promise 2: point, and the run with its faults."""

import unittest

from calling import (CONSTANT, DIFFERENCE, INPUT, LARGEST, OPPOSITE, PRODUCT, QUOTIENT, SUM,
                     ask, changes, clear, code, direction, last, point, power_of_two_lines, value, values)


class NoFault(unittest.TestCase):
    def test_the_run_has_no_fault(self):
        self.assertEqual(last(code(2, [INPUT, 0], [INPUT, 1], [QUOTIENT, 0, 1]), point(0, 1, -2, 3)), [0])

    def test_no_inputs_and_no_lines(self):
        self.assertEqual(last(point()), [0])
        self.assertEqual(last(code(0), point()), [0])
        self.assertEqual(last(code(0, [CONSTANT, 1, 2]), point()), [0])
        self.assertEqual(last(code(12), point(*[1, 1] * 12)), [0])

    def test_a_later_point_takes_the_place_of_the_earlier(self):
        told = ask(code(1, [INPUT, 0], [PRODUCT, 0, 0]), direction(1, 1), point(3, 1), changes(0), values(),
                   point(5, 1), changes(0), values())
        self.assertEqual(told[2:], [[0], [2, 1, 1, 6, 1], [2, 3, 1, 9, 1],
                                    [0], [2, 1, 1, 10, 1], [2, 5, 1, 25, 1]])

    def test_point_leaves_the_directions(self):
        self.assertEqual(last(code(1), direction(1, 1), direction(1, 1), point(1, 1), clear()), [2])


class Form(unittest.TestCase):
    def test_fractions_not_in_lowest_terms(self):
        begin = code(3, [INPUT, 0], [INPUT, 1], [INPUT, 2])
        self.assertEqual(last(begin, point(6, 4, -6, 9, 0, 7), values()), [3, 3, 2, -2, 3, 0, 1])
        self.assertEqual(last(begin, point(LARGEST, LARGEST, -LARGEST, 1, -1, LARGEST), values()),
                         [3, 1, 1, -LARGEST, 1, -1, LARGEST])

    def test_wrong_lists(self):
        begin = code(2, [INPUT, 0])
        wrong = [(), (1,), (1, 1), (1, 1, 1), (1, 1, 1, 1, 1), (1, 1, 1, 1, 1, 1),
                 (1, 0, 1, 1), (1, 1, 1, 0), (1, 1, 1, -1), (1, -LARGEST, 1, 1), (0, 0, 0, 1), tuple([1] * 100)]
        for numbers in wrong:
            self.assertEqual(last(begin, point(*numbers)), [-2], numbers)
        self.assertEqual(last(code(0), point(1, 1)), [-2])

    def test_a_refusal_leaves_the_point_as_it_was(self):
        begin = code(1, [INPUT, 0])
        for numbers in ((), (2,), (2, 0), (2, 1, 2, 1)):
            self.assertEqual(ask(begin, point(7, 2), direction(3, 1), point(*numbers), value(0), changes(0))[3:],
                             [[-2], [1, 7, 2], [1, 3, 1]])
            self.assertEqual(ask(begin, point(*numbers), value(0))[1:], [[-2], [-4]])


class DivisorOfZero(unittest.TestCase):
    def test_the_line_and_the_fault(self):
        begin = code(2, [INPUT, 0], [INPUT, 1], [QUOTIENT, 0, 1], [SUM, 2, 2])
        self.assertEqual(last(begin, point(5, 1, 0, 3)), [1, 2, 1])
        self.assertEqual(last(begin, point(0, 1, 0, 1)), [1, 2, 1])
        self.assertEqual(last(begin, point(0, 1, 5, 1)), [0])

    def test_a_divisor_that_is_0_by_reckoning(self):
        lines = [[INPUT, 0], [DIFFERENCE, 0, 0], [CONSTANT, 1, 1], [QUOTIENT, 2, 1]]
        self.assertEqual(last(code(1, *lines), point(5, 7)), [1, 3, 1])

    def test_the_first_fault_is_told(self):
        lines = [[INPUT, 0], [QUOTIENT, 0, 0], [QUOTIENT, 0, 0]]
        self.assertEqual(last(code(1, *lines), point(0, 1)), [1, 1, 1])

    def test_the_point_is_taken_all_the_same(self):
        begin = code(1, [INPUT, 0], [QUOTIENT, 0, 0])
        told = ask(begin, direction(1, 1), point(2, 1), value(0), point(0, 1), value(0), value(1), values(),
                   changes(0), point(3, 1), values())
        self.assertEqual(told[2:], [[0], [1, 2, 1], [1, 1, 1], [-5], [-5], [-5], [-5], [0], [2, 3, 1, 1, 1]])


class Weight(unittest.TestCase):
    def test_a_product_of_just_200_and_of_201(self):
        lines, top = power_of_two_lines(198)
        self.assertEqual(ask(code(0, *lines), point(), value(top))[1:], [[0], [1, 2 ** 198, 1]])
        lines, top = power_of_two_lines(199)
        self.assertEqual(ask(code(0, *lines), point(), value(top))[1:], [[1, top, 2], [-5]])

    def test_the_denominator_counts(self):
        # 1 over 2^198 weighs 1 and 199; 3 over 2^198 weighs 2 and 199.
        lines, top = power_of_two_lines(198)
        at = len(lines)
        self.assertEqual(last(code(0, *lines, [CONSTANT, 1, 1], [QUOTIENT, at, top]), point()), [0])
        self.assertEqual(last(code(0, *lines, [CONSTANT, 3, 1], [QUOTIENT, at, top]), point()), [1, at + 1, 2])
        self.assertEqual(last(code(0, *lines, [CONSTANT, -3, 1], [QUOTIENT, at, top]), point()), [1, at + 1, 2])

    def test_sum_difference_and_opposite(self):
        lines, top = power_of_two_lines(198)
        at = len(lines)
        self.assertEqual(last(code(0, *lines, [SUM, top, top]), point()), [1, at, 2])
        self.assertEqual(last(code(0, *lines, [OPPOSITE, top]), point()), [0])
        self.assertEqual(last(code(0, *lines, [OPPOSITE, top], [DIFFERENCE, at, top]), point()), [1, at + 1, 2])
        self.assertEqual(last(code(0, *lines, [OPPOSITE, top], [SUM, at, top]), point()), [0])

    def test_the_weight_is_that_in_lowest_terms(self):
        lines, top = power_of_two_lines(198)
        self.assertEqual(last(code(0, *lines, [QUOTIENT, top, top]), point()), [0])

    def test_the_fault_is_of_the_run_and_not_of_the_last_line(self):
        lines, top = power_of_two_lines(199)
        self.assertEqual(last(code(0, *lines, [CONSTANT, 0, 1], [QUOTIENT, 0, len(lines)]), point()),
                         [1, len(lines) - 1, 2])

    def test_a_divisor_of_0_ahead_of_a_heavy_line(self):
        lines, top = power_of_two_lines(199, 2)
        self.assertEqual(last(code(0, [CONSTANT, 0, 1], [QUOTIENT, 0, 0], *lines), point()), [1, 1, 1])

    def test_the_point_is_taken_all_the_same(self):
        lines, top = power_of_two_lines(198, 1)
        at = len(lines) + 1
        begin = code(1, [INPUT, 0], *lines, [PRODUCT, 0, top])
        told = ask(begin, point(1, 1), value(at), point(2, 1), value(0), values(), point(-1, 1), value(at))
        self.assertEqual(told[1:], [[0], [1, 2 ** 198, 1], [1, at, 2], [-5], [-5], [0], [1, -2 ** 198, 1]])


if __name__ == "__main__":
    unittest.main()
