"""Promise 4: value and values."""

import unittest

from calling import (CONSTANT, DIFFERENCE, INPUT, LARGEST, OPPOSITE, PRODUCT, QUOTIENT, SUM,
                     ask, code, direction, last, point, value, values)

EVERY_KIND = code(2, [INPUT, 0], [INPUT, 1], [CONSTANT, -6, 8], [SUM, 0, 1], [DIFFERENCE, 0, 1],
                  [PRODUCT, 0, 1], [QUOTIENT, 0, 1], [OPPOSITE, 0])


class Values(unittest.TestCase):
    def test_the_example_of_the_document(self):
        told = ask(code(2, [0, 0], [0, 1], [4, 0, 1], [2, 2, 0]), point(3, 2, 4, 1), values())
        self.assertEqual(told[-1], [4, 3, 2, 4, 1, 6, 1, 15, 2])

    def test_each_kind_of_line(self):
        told = ask(EVERY_KIND, point(1, 2, -2, 3), values(), *[value(i) for i in range(8)])
        fractions = [(1, 2), (-2, 3), (-3, 4), (-1, 6), (7, 6), (-1, 3), (-3, 4), (-1, 2)]
        self.assertEqual(told[2], [8] + [number for fraction in fractions for number in fraction])
        self.assertEqual(told[3:], [[1, upper, lower] for upper, lower in fractions])

    def test_signs_of_a_quotient(self):
        begin = code(2, [INPUT, 0], [INPUT, 1], [QUOTIENT, 0, 1])
        for upper, lower, answer in ((6, 4, [1, 3, 2]), (-6, 4, [1, -3, 2]), (6, -4, [1, -3, 2]),
                                     (-6, -4, [1, 3, 2]), (0, -4, [1, 0, 1]),
                                     (6, -1, [1, -6, 1]), (-6, -1, [1, 6, 1]), (6, 1, [1, 6, 1])):
            self.assertEqual(last(begin, point(upper, 1, lower, 1), value(2)), answer)

    def test_results_of_0_are_0_over_1(self):
        lines = [[INPUT, 0], [DIFFERENCE, 0, 0], [OPPOSITE, 1], [PRODUCT, 0, 1], [SUM, 1, 2], [QUOTIENT, 1, 0]]
        self.assertEqual(last(code(1, *lines), point(-5, 7), values()), [6, -5, 7] + [0, 1] * 5)

    def test_sums_that_cancel_in_the_denominator(self):
        begin = code(2, [INPUT, 0], [INPUT, 1], [SUM, 0, 1], [DIFFERENCE, 0, 1])
        self.assertEqual(last(begin, point(1, 6, 1, 10), values()), [4, 1, 6, 1, 10, 4, 15, 1, 15])
        self.assertEqual(last(begin, point(5, 12, 1, 12), values()), [4, 5, 12, 1, 12, 1, 2, 1, 3])

    def test_large_numbers_are_exact(self):
        begin = code(2, [INPUT, 0], [INPUT, 1], [PRODUCT, 0, 1], [SUM, 0, 1])
        other = LARGEST - 1
        self.assertEqual(last(begin, point(LARGEST, 1, -1, other), values()),
                         [4, LARGEST, 1, -1, other, -LARGEST, other, LARGEST * other - 1, other])

    def test_no_lines(self):
        self.assertEqual(last(code(2), point(1, 1, 1, 1), values()), [0])


class Refusals(unittest.TestCase):
    def test_a_line_that_is_not_there(self):
        for i in (-1, 8, LARGEST, -LARGEST):
            self.assertEqual(last(EVERY_KIND, point(1, 1, 1, 1), value(i)), [-1])
        self.assertEqual(last(EVERY_KIND, point(1, 1, 1, 1), value(7)), [1, -1, 1])

    def test_no_point(self):
        self.assertEqual(ask(EVERY_KIND, value(0), values())[1:], [[-4], [-4]])

    def test_a_fault(self):
        told = ask(EVERY_KIND, point(1, 1, 0, 1), value(0), value(6), value(7), values())
        self.assertEqual(told[1:], [[1, 6, 1], [-5], [-5], [-5], [-5]])

    def test_the_range_ahead_of_the_point_and_of_a_fault(self):
        self.assertEqual(last(EVERY_KIND, value(8)), [-1])
        self.assertEqual(last(EVERY_KIND, value(-1)), [-1])
        self.assertEqual(last(EVERY_KIND, point(1, 1, 0, 1), value(8)), [-1])

    def test_a_refusal_leaves_everything_as_it_was(self):
        told = ask(EVERY_KIND, direction(1, 1, 1, 1), point(1, 1, 1, 1), value(8), value(0), direction(1, 1, 1, 1))
        self.assertEqual(told[3:], [[-1], [1, 1, 1], [1]])


if __name__ == "__main__":
    unittest.main()
