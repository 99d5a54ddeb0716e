"""Promise 9: series."""

import unittest
from fractions import Fraction

from calling import (CONSTANT, DIFFERENCE, INPUT, LARGEST, OPPOSITE, PRODUCT, QUOTIENT, SUM,
                     ask, change, changes, clear, climbing_lines, code, direction, last, move, point, series, value)

EVERY_KIND = code(2, [INPUT, 0], [INPUT, 1], [CONSTANT, 5, 7], [SUM, 0, 1], [DIFFERENCE, 0, 1],
                  [PRODUCT, 0, 1], [QUOTIENT, 0, 1], [OPPOSITE, 0])
# 1 less an input, and 1 over that.
GEOMETRIC = [code(1, [INPUT, 0], [CONSTANT, 1, 1], [DIFFERENCE, 1, 0], [QUOTIENT, 1, 2]), point(0, 1), direction(1, 1)]


def told_as(fractions):
    return [len(fractions)] + [number for fraction in fractions for number in fraction]


class Series(unittest.TestCase):
    def test_each_kind_of_line(self):
        told = ask(EVERY_KIND, point(3, 1, 2, 1), direction(5, 1, 1, 2), *[series(i, 0, 4) for i in range(8)])
        zero = (0, 1)
        # The quotient q of 3 + 5t by 2 + t/2: 3/2, (5 - 3/2 * 1/2) / 2, then each is the one before times -1/4.
        wanted = [[(3, 1), (5, 1), zero, zero], [(2, 1), (1, 2), zero, zero], [(5, 7), zero, zero, zero],
                  [(5, 1), (11, 2), zero, zero], [(1, 1), (9, 2), zero, zero], [(6, 1), (23, 2), (5, 2), zero],
                  [(3, 2), (17, 8), (-17, 32), (17, 128)], [(-3, 1), (-5, 1), zero, zero]]
        self.assertEqual(told[3:], [told_as(fractions) for fractions in wanted])

    def test_k_of_1_and_8(self):
        for k in range(1, 9):
            self.assertEqual(last(*GEOMETRIC, series(3, 0, k)), [k] + [1, 1] * k)

    def test_one_over_a_sum(self):
        begin = [GEOMETRIC[0], point(-1, 1), direction(-1, 1)]
        self.assertEqual(last(*begin, series(3, 0, 8)),
                         told_as([((-1) ** r, 2 ** (r + 1)) for r in range(8)]))

    def test_kinds_over_whole_series(self):
        # Over a = 1 / (1 - t), whose coefficients are all 1, and b = a * a, whose are 1, 2, 3, ...
        more = [[PRODUCT, 3, 3], [SUM, 3, 4], [DIFFERENCE, 3, 4], [OPPOSITE, 4], [QUOTIENT, 4, 3], [QUOTIENT, 3, 4],
                [PRODUCT, 4, 4]]
        begin = [code(1, [INPUT, 0], [CONSTANT, 1, 1], [DIFFERENCE, 1, 0], [QUOTIENT, 1, 2], *more), *GEOMETRIC[1:]]
        told = ask(*begin, *[series(i, 0, 8) for i in range(4, 11)])
        wanted = [[r + 1 for r in range(8)], [r + 2 for r in range(8)], [-r for r in range(8)],
                  [-r - 1 for r in range(8)], [1] * 8, [1, -1] + [0] * 6,
                  [(r + 1) * (r + 2) * (r + 3) // 6 for r in range(8)]]
        self.assertEqual(told[3:], [told_as([(number, 1) for number in numbers]) for numbers in wanted])

    def test_a_line_made_of_one_line_twice(self):
        begin = [code(1, [INPUT, 0], [PRODUCT, 0, 0], [PRODUCT, 1, 1], [PRODUCT, 2, 2], [QUOTIENT, 3, 3],
                      [SUM, 3, 3], [DIFFERENCE, 3, 3]), point(1, 2), direction(1, 1)]
        told = ask(*begin, *[series(i, 0, 8) for i in range(3, 7)])
        eighth = [Fraction(n, 2 ** (8 - r)) for r, n in enumerate((1, 8, 28, 56, 70, 56, 28, 8))]
        wanted = [eighth, [Fraction(1)] + [Fraction(0)] * 7, [2 * x for x in eighth], [Fraction(0)] * 8]
        self.assertEqual(told[3:], [told_as([(x.numerator, x.denominator) for x in xs]) for xs in wanted])

    def test_the_coefficients_of_a_polynomial_add_up_to_its_moved_value(self):
        begin = [code(2, [INPUT, 0], [INPUT, 1], [PRODUCT, 0, 1], [PRODUCT, 2, 0], [DIFFERENCE, 3, 1], [PRODUCT, 4, 2]),
                 point(3, 5, -7, 2), direction(-1, 3, 4, 1)]
        told = ask(*begin, series(5, 0, 8), move(0, -5, 9), value(5))
        numbers = told[3][1:]
        coefficients = [Fraction(upper, lower) for upper, lower in zip(numbers[::2], numbers[1::2])]
        t = Fraction(-5, 9)
        self.assertEqual(coefficients[6:], [0, 0])
        self.assertNotEqual(coefficients[5], 0)
        self.assertEqual(sum(c * t ** r for r, c in enumerate(coefficients)), Fraction(*told[5][1:]))

    def test_the_second_coefficient_is_the_change(self):
        begin = [EVERY_KIND, point(3, 4, -2, 5), direction(5, 1, 1, 2), direction(-1, 3, 7, 1)]
        for d in (0, 1):
            for i in range(8):
                told = ask(*begin, series(i, d, 2), value(i), change(i, d))
                self.assertEqual(told[4], [2] + told[5][1:] + told[6][1:])

    def test_fewer_and_more_coefficients_at_one_point(self):
        told = ask(*GEOMETRIC, series(3, 0, 3), series(3, 0, 8), series(3, 0, 1), changes(0), series(2, 0, 3),
                   series(3, 0, 5))
        self.assertEqual(told[3:], [[3] + [1, 1] * 3, [8] + [1, 1] * 8, [1, 1, 1], [4, 1, 1, 0, 1, -1, 1, 1, 1],
                                    [3, 1, 1, -1, 1, 0, 1], [5] + [1, 1] * 5])

    def test_the_direction_of_nothing(self):
        self.assertEqual(last(GEOMETRIC[0], point(1, 2), direction(0, 3), series(3, 0, 8)), [8, 2, 1] + [0, 1] * 7)

    def test_no_inputs(self):
        self.assertEqual(last(code(0, [CONSTANT, 4, 6]), point(), direction(), series(0, 0, 3)), [3, 2, 3, 0, 1, 0, 1])

    def test_80_lines(self):
        lines = [[INPUT, 0]] + [[PRODUCT, k, k] if k % 2 else [QUOTIENT, k, 0] for k in range(79)]
        # At 1, along 1: line 1 is x / x, then a square, a quotient by x, and so on: a power of x below 0.
        power = 1
        for k in range(79):
            power = 2 * power if k % 2 else power - 1
        told = last(code(1, *lines), point(1, 1), direction(1, 1), series(79, 0, 8))
        wanted, binomial = [], 1
        for r in range(8):
            wanted.append((binomial, 1))
            binomial = binomial * (power - r) // (r + 1)
        self.assertEqual(told, told_as(wanted))


class Refusals(unittest.TestCase):
    def test_k_outside_1_to_8(self):
        for k in (0, 9, -1, LARGEST, -LARGEST):
            self.assertEqual(last(*GEOMETRIC, series(3, 0, k)), [-1])

    def test_a_line_or_direction_that_is_not_there(self):
        for i in (-1, 4, LARGEST, -LARGEST):
            self.assertEqual(last(*GEOMETRIC, series(i, 0, 2)), [-1])
        for d in (-1, 1, 3, LARGEST, -LARGEST):
            self.assertEqual(last(*GEOMETRIC, series(3, d, 2)), [-1])
        self.assertEqual(last(series(0, 0, 1)), [-1])

    def test_no_point(self):
        self.assertEqual(last(GEOMETRIC[0], direction(1, 1), series(3, 0, 2)), [-4])

    def test_a_fault(self):
        told = ask(*GEOMETRIC, point(1, 1), series(3, 0, 2), series(0, 0, 1))
        self.assertEqual(told[3:], [[1, 3, 1], [-5], [-5]])

    def test_the_range_ahead_of_the_point_and_of_a_fault(self):
        wrong = [series(4, 0, 2), series(3, 1, 2), series(3, 0, 0), series(3, 0, 9)]
        for begin in ([GEOMETRIC[0], direction(1, 1)], [*GEOMETRIC, point(1, 1)]):
            self.assertEqual(ask(*begin, *wrong)[len(begin):], [[-1]] * 4)

    def test_a_refusal_leaves_everything_as_it_was(self):
        told = ask(*GEOMETRIC, series(3, 0, 9), series(3, 0, 2), value(3), clear())
        self.assertEqual(told[3:], [[-1], [2, 1, 1, 1, 1], [1, 1, 1], [1]])


class Heavy(unittest.TestCase):
    def test_a_weight_of_just_4000_and_above_it(self):
        for rest, answer in ((38, [2, 0, 1, 2 ** 3998, 1]), (39, [-6])):
            lines = climbing_lines(20, rest)
            told = ask(code(1, *lines), point(0, 1), direction(1, 1), series(len(lines) - 1, 0, 1),
                       series(len(lines) - 1, 0, 2), series(0, 0, 8))
            self.assertEqual(told[3:], [[1, 0, 1], answer, [8, 0, 1, 1, 1] + [0, 1] * 6])

    def test_only_what_would_be_told_counts(self):
        # The third power has its only coefficient at number 3.
        lines = climbing_lines(20, 39, ([INPUT, 0], [PRODUCT, 0, 0], [PRODUCT, 1, 0]))
        heavy = len(lines) - 1
        told = ask(code(1, *lines), point(0, 1), direction(1, 1), *[series(heavy, 0, k) for k in (3, 4, 8, 3)],
                   series(heavy - 1, 0, 4))
        self.assertEqual(told[3:], [[3] + [0, 1] * 3, [-6], [-6], [3] + [0, 1] * 3, [4] + [0, 1] * 3 + [2 ** 3960, 1]])

    def test_a_heavy_last_coefficient(self):
        # 1 over 1 - x: along 2^571 over 1 the coefficient number 7 weighs 3998 and 1.
        for exponent, answer in ((571, 8), (572, -6)):
            lines = climbing_lines(exponent // 198, exponent % 198)
            at = len(lines) - 1
            lines += [[CONSTANT, 1, 1], [DIFFERENCE, at + 1, at], [QUOTIENT, at + 1, at + 2]]
            told = ask(code(1, *lines), point(0, 1), direction(1, 1), series(at + 3, 0, 7), series(at + 3, 0, 8))
            self.assertEqual(told[3], told_as([(2 ** (exponent * r), 1) for r in range(7)]))
            self.assertEqual(told[4][0], answer)

    def test_a_fault_ahead_of_the_weight(self):
        lines = climbing_lines(20, 39) + [[QUOTIENT, 1, 0]]
        told = ask(code(1, *lines), direction(1, 1), series(len(lines) - 2, 0, 8), point(0, 1),
                   series(len(lines) - 2, 0, 8))
        self.assertEqual(told[2:], [[-4], [1, len(lines) - 1, 1], [-5]])


if __name__ == "__main__":
    unittest.main()
