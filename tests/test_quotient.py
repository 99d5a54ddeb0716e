"""Promise 8: quotient."""

import unittest

from calling import (CONSTANT, DIFFERENCE, INPUT, LARGEST, OPPOSITE, PRODUCT, QUOTIENT, SUM,
                     ask, change, clear, climbing_lines, code, direction, last, point, power_of_two_lines, quotient,
                     series, value, values)

EVERY_KIND = code(2, [INPUT, 0], [INPUT, 1], [CONSTANT, 5, 7], [SUM, 0, 1], [DIFFERENCE, 0, 1],
                  [PRODUCT, 0, 1], [QUOTIENT, 0, 1], [OPPOSITE, 0])
SQUARE = [code(1, [INPUT, 0], [PRODUCT, 0, 0]), point(3, 1), direction(1, 1)]
INVERSE = [code(1, [INPUT, 0], [CONSTANT, 1, 1], [QUOTIENT, 1, 0]), point(2, 1), direction(1, 1)]


class Quotients(unittest.TestCase):
    def test_a_square(self):
        self.assertEqual(last(*SQUARE, quotient(1, 0, 1, 2)), [2, 13, 2, 1, 2])
        self.assertEqual(last(*SQUARE, quotient(1, 0, 2, 1)), [2, 8, 1, 2, 1])
        self.assertEqual(last(*SQUARE, quotient(1, 0, 1, 10 ** 14)), [2, 6 * 10 ** 14 + 1, 10 ** 14, 1, 10 ** 14])

    def test_n_below_0(self):
        self.assertEqual(last(*SQUARE, quotient(1, 0, -1, 2)), [2, 11, 2, -1, 2])
        self.assertEqual(last(*SQUARE, quotient(1, 0, -LARGEST, 1)), [2, 6 - LARGEST, 1, -LARGEST, 1])

    def test_n_and_m_not_in_lowest_terms(self):
        self.assertEqual(last(*SQUARE, quotient(1, 0, 6, 12)), [2, 13, 2, 1, 2])
        self.assertEqual(last(*SQUARE, quotient(1, 0, -LARGEST, LARGEST)), [2, 5, 1, -1, 1])

    def test_an_inverse(self):
        # At 3 it's 1/3, at 2 it's 1/2; its change at 2 is -1/4.
        self.assertEqual(last(*INVERSE, quotient(2, 0, 1, 1)), [2, -1, 6, 1, 12])

    def test_each_kind_of_line(self):
        told = ask(EVERY_KIND, point(3, 1, 2, 1), direction(5, 1, 1, 2), *[quotient(i, 0, 2, 1) for i in range(8)])
        # The moved point is 13 and 3. The product: (39 - 6) / 2 less 23/2; the quotient: (13/3 - 3/2) / 2 less 17/8.
        self.assertEqual(told[3:], [[2, 5, 1, 0, 1], [2, 1, 2, 0, 1], [2, 0, 1, 0, 1], [2, 11, 2, 0, 1],
                                    [2, 9, 2, 0, 1], [2, 33, 2, 5, 1], [2, 17, 12, -17, 24], [2, -5, 1, 0, 1]])

    def test_along_the_told_direction(self):
        begin = [code(2, [INPUT, 0], [INPUT, 1], [PRODUCT, 0, 1]), point(3, 1, 7, 1), direction(1, 1, 0, 1),
                 direction(1, 1, 1, 1), direction(0, 1, 0, 1)]
        told = ask(*begin, *[quotient(2, d, 1, 3) for d in (0, 1, 2)])
        self.assertEqual(told[5:], [[2, 7, 1, 0, 1], [2, 31, 3, 1, 3], [2, 0, 1, 0, 1]])

    def test_no_inputs(self):
        self.assertEqual(last(code(0, [CONSTANT, 1, 2]), point(), direction(), quotient(0, 0, 1, 1)), [2, 0, 1, 0, 1])

    def test_the_point_stays_as_it_was(self):
        told = ask(*SQUARE, change(1, 0), quotient(1, 0, 1, 2), values(), change(1, 0), series(1, 0, 3),
                   quotient(1, 0, 1, 2), clear())
        self.assertEqual(told[3:], [[1, 6, 1], [2, 13, 2, 1, 2], [2, 3, 1, 9, 1], [1, 6, 1], [3, 9, 1, 6, 1, 1, 1],
                                    [2, 13, 2, 1, 2], [1]])


class Refusals(unittest.TestCase):
    def test_n_of_0(self):
        for m in (1, 7, LARGEST):
            self.assertEqual(last(*SQUARE, quotient(1, 0, 0, m)), [-1])

    def test_m_below_1(self):
        for m in (0, -1, -LARGEST):
            for n in (1, 0, -1):
                self.assertEqual(last(*SQUARE, quotient(1, 0, n, m)), [-1])

    def test_a_line_or_direction_that_is_not_there(self):
        for other in (-1, 2, LARGEST, -LARGEST):
            self.assertEqual(last(*SQUARE, quotient(other, 0, 1, 1)), [-1])
            self.assertEqual(last(*SQUARE, quotient(1, other, 1, 1)), [-1])
        self.assertEqual(last(*SQUARE, quotient(0, 1, 1, 1)), [-1])
        self.assertEqual(last(quotient(0, 0, 1, 1)), [-1])

    def test_no_point(self):
        begin = [SQUARE[0], SQUARE[2]]
        self.assertEqual(last(*begin, quotient(1, 0, 1, 1)), [-4])

    def test_a_fault_at_the_point(self):
        told = ask(*INVERSE, point(0, 1), quotient(2, 0, 1, 1), quotient(0, 0, 1, 1), value(0), point(1, 1),
                   quotient(2, 0, 1, 1))
        self.assertEqual(told[3:], [[1, 2, 1], [-5], [-5], [-5], [0], [2, -1, 2, 1, 2]])

    def test_a_fault_at_the_moved_point_alone(self):
        told = ask(*INVERSE, quotient(2, 0, -2, 1), quotient(0, 0, -4, 2), values(), quotient(2, 0, 1, 1))
        self.assertEqual(told[3:], [[-5], [-5], [3, 2, 1, 1, 1, 1, 2], [2, -1, 6, 1, 12]])

    def test_a_heavy_value_at_the_moved_point_alone(self):
        lines, top = power_of_two_lines(198, 1)
        begin = [code(1, [INPUT, 0], *lines, [PRODUCT, 0, top]), point(1, 1), direction(1, 1)]
        told = ask(*begin, quotient(0, 0, 1, 1), quotient(0, 0, -2, 1), value(0))
        self.assertEqual(told[3:], [[-5], [2, 1, 1, 0, 1], [1, 1, 1]])

    def test_the_range_ahead_of_the_point_and_of_a_fault(self):
        wrong = [quotient(3, 0, 1, 1), quotient(2, 1, 1, 1), quotient(2, 0, 0, 1), quotient(2, 0, 1, 0)]
        for begin in ([INVERSE[0], INVERSE[2]], [*INVERSE, point(0, 1)]):
            self.assertEqual(ask(*begin, *wrong)[len(begin):], [[-1]] * 4)

    def test_a_refusal_leaves_everything_as_it_was(self):
        told = ask(*INVERSE, change(2, 0), quotient(2, 0, -2, 1), quotient(2, 0, 0, 1), change(2, 0), value(2), clear())
        self.assertEqual(told[3:], [[1, -1, 4], [-5], [-1], [1, -1, 4], [1, 1, 2], [1]])


class Heavy(unittest.TestCase):
    # x * (x - 1) is 0 at 0 and at 1, and its change at 0 along 1 is -1.
    two_roots = ([INPUT, 0], [CONSTANT, 1, 1], [DIFFERENCE, 0, 1], [PRODUCT, 0, 2])

    def test_e_with_a_weight_of_just_4000_and_above_it(self):
        for rest, answer in ((38, [2, 0, 1, 2 ** 3998, 1]), (39, [-6])):
            lines = climbing_lines(20, rest, self.two_roots)
            told = ask(code(1, *lines), point(0, 1), direction(1, 1), quotient(len(lines) - 1, 0, 1, 1), value(0))
            self.assertEqual(told[3:], [answer, [1, 0, 1]])

    def test_only_what_would_be_told_counts(self):
        lines = climbing_lines(20, 39, self.two_roots)
        told = ask(code(1, *lines), point(0, 1), direction(1, 1), quotient(len(lines) - 1, 0, 1, 1),
                   quotient(3, 0, 1, 1))
        self.assertEqual(told[3:], [[-6], [2, 0, 1, 1, 1]])

    def test_a_fault_at_the_moved_point_ahead_of_the_weight(self):
        lines = climbing_lines(20, 39, self.two_roots)
        told = ask(code(1, *lines), point(0, 1), direction(1, 1), quotient(len(lines) - 1, 0, 2, 1))
        self.assertEqual(told[3:], [[-5]])


if __name__ == "__main__":
    unittest.main()
