"""Promise 5: change and changes."""

import unittest

from calling import (CONSTANT, DIFFERENCE, INPUT, LARGEST, OPPOSITE, PRODUCT, QUOTIENT, SUM,
                     ask, change, changes, clear, climbing_lines, code, direction, last, point, value)

EVERY_KIND = code(2, [INPUT, 0], [INPUT, 1], [CONSTANT, 5, 7], [SUM, 0, 1], [DIFFERENCE, 0, 1],
                  [PRODUCT, 0, 1], [QUOTIENT, 0, 1], [OPPOSITE, 0])


class Changes(unittest.TestCase):
    def test_each_kind_of_line(self):
        told = ask(EVERY_KIND, point(3, 1, 2, 1), direction(5, 1, 1, 2), changes(0),
                   *[change(i, 0) for i in range(8)])
        # The product: 5 * 2 + 3 * 1/2; the quotient: (5 - 3/2 * 1/2) / 2.
        fractions = [(5, 1), (1, 2), (0, 1), (11, 2), (9, 2), (23, 2), (17, 8), (-5, 1)]
        self.assertEqual(told[3], [8] + [number for fraction in fractions for number in fraction])
        self.assertEqual(told[4:], [[1, upper, lower] for upper, lower in fractions])

    def test_a_square_and_an_inverse(self):
        begin = code(1, [INPUT, 0], [PRODUCT, 0, 0], [CONSTANT, 1, 1], [QUOTIENT, 2, 0])
        self.assertEqual(last(begin, point(-3, 2), direction(1, 1), changes(0)),
                         [4, 1, 1, -3, 1, 0, 1, -4, 9])

    def test_along_several_directions(self):
        begin = code(2, [INPUT, 0], [INPUT, 1], [PRODUCT, 0, 1])
        told = ask(begin, point(3, 1, 7, 1), direction(1, 1, 0, 1), direction(0, 1, 1, 1), direction(2, 1, -4, 1),
                   change(2, 0), change(2, 1), change(2, 2), change(2, 1), changes(2))
        self.assertEqual(told[5:], [[1, 7, 1], [1, 3, 1], [1, 2, 1], [1, 3, 1], [3, 2, 1, -4, 1, 2, 1]])

    def test_the_direction_of_nothing(self):
        self.assertEqual(last(EVERY_KIND, point(3, 1, 2, 1), direction(0, 5, 0, 1), changes(0)), [8] + [0, 1] * 8)

    def test_after_other_points_and_directions(self):
        begin = code(1, [INPUT, 0], [PRODUCT, 0, 0])
        told = ask(begin, point(3, 1), direction(1, 1), change(1, 0), point(4, 1), change(1, 0),
                   clear(), direction(2, 1), change(1, 0), changes(0))
        self.assertEqual(told[3:], [[1, 6, 1], [0], [1, 8, 1], [1], [0], [1, 16, 1], [2, 2, 1, 16, 1]])

    def test_a_line_that_no_later_one_uses_is_told_too(self):
        begin = code(2, [INPUT, 1], [INPUT, 0], [INPUT, 1])
        self.assertEqual(last(begin, point(1, 1, 1, 1), direction(8, 1, 9, 1), changes(0)), [3, 9, 1, 8, 1, 9, 1])

    def test_no_lines(self):
        self.assertEqual(last(code(1), point(1, 1), direction(1, 1), changes(0)), [0])


class Refusals(unittest.TestCase):
    def test_a_line_or_direction_that_is_not_there(self):
        begin = [EVERY_KIND, point(3, 1, 2, 1), direction(1, 1, 1, 1), direction(1, 1, 1, 1)]
        for i in (-1, 8, LARGEST, -LARGEST):
            self.assertEqual(last(*begin, change(i, 0)), [-1])
        for d in (-1, 2, LARGEST, -LARGEST):
            self.assertEqual(last(*begin, change(0, d)), [-1])
            self.assertEqual(last(*begin, changes(d)), [-1])
        self.assertEqual(last(*begin, change(7, 1)), [1, -1, 1])

    def test_i_and_d_are_not_taken_for_one_another(self):
        begin = [EVERY_KIND, point(3, 1, 2, 1), direction(1, 1, 1, 1)]
        self.assertEqual(last(*begin, change(0, 7)), [-1])
        self.assertEqual(last(*begin, change(7, 0)), [1, -1, 1])

    def test_no_point(self):
        told = ask(EVERY_KIND, direction(1, 1, 1, 1), change(0, 0), changes(0))
        self.assertEqual(told[2:], [[-4], [-4]])

    def test_a_fault(self):
        told = ask(EVERY_KIND, direction(1, 1, 1, 1), point(1, 1, 0, 1), change(0, 0), change(6, 0), changes(0))
        self.assertEqual(told[2:], [[1, 6, 1], [-5], [-5], [-5]])

    def test_the_range_ahead_of_the_point_and_of_a_fault(self):
        told = ask(EVERY_KIND, change(0, 0), changes(0), direction(1, 1, 1, 1), change(8, 0), change(0, 1), changes(1),
                   point(1, 1, 0, 1), change(8, 0), change(0, 1), changes(1))
        self.assertEqual(told[1:], [[-1], [-1], [0], [-1], [-1], [-1], [1, 6, 1], [-1], [-1], [-1]])


class Heavy(unittest.TestCase):
    def test_a_weight_of_just_4000_and_above_it(self):
        for upper, rest, answer in ((1, 38, [1, 2 ** 3998, 1]), (1, 39, [-6]), (-1, 38, [1, -2 ** 3998, 1]),
                                    (-1, 39, [-6])):
            lines = climbing_lines(20, rest)
            told = ask(code(1, *lines), point(0, 1), direction(upper, 1), change(len(lines) - 1, 0), changes(0))
            self.assertEqual(told[:4], [[len(lines)], [0], [0], answer])
            self.assertEqual(told[4][0], -6 if answer == [-6] else len(lines))

    def test_numerator_and_denominator_are_added(self):
        lines = climbing_lines(20, 37)
        # 2^3997 over 3 weighs 3998 and 2, over 5 it weighs 3998 and 3.
        self.assertEqual(last(code(1, *lines), point(0, 1), direction(1, 3), change(len(lines) - 1, 0)),
                         [1, 2 ** 3997, 3])
        self.assertEqual(last(code(1, *lines), point(0, 1), direction(1, 5), change(len(lines) - 1, 0)), [-6])
        # In lowest terms it's 2^3997.
        self.assertEqual(last(code(1, *lines), point(0, 1), direction(5, 5), change(len(lines) - 1, 0)),
                         [1, 2 ** 3997, 1])

    def test_only_what_would_be_told_counts(self):
        lines = climbing_lines(20, 39)
        heavy = len(lines) - 1
        lines.append([QUOTIENT, heavy, 1])
        told = ask(code(1, *lines), point(0, 1), direction(1, 1), change(heavy - 1, 0), change(heavy, 0),
                   change(heavy + 1, 0), changes(0))
        self.assertEqual(told[3:], [[1, 2 ** 3960, 1], [-6], [1, 2 ** 3940, 1], [-6]])

    def test_values_may_be_told_where_changes_are_too_heavy(self):
        lines = climbing_lines(20, 39)
        self.assertEqual(last(code(1, *lines), point(0, 1), direction(1, 1), changes(0), value(len(lines) - 1)),
                         [1, 0, 1])

    def test_a_refusal_leaves_everything_as_it_was(self):
        lines = climbing_lines(20, 39)
        told = ask(code(1, *lines), point(0, 1), direction(1, 1), changes(0), value(0), change(0, 0), clear())
        self.assertEqual(told[3:], [[-6], [1, 0, 1], [1, 1, 1], [1]])

    def test_the_range_and_a_fault_ahead_of_the_weight(self):
        lines = climbing_lines(20, 39) + [[QUOTIENT, 1, 0]]
        heavy = len(lines) - 2
        told = ask(code(1, *lines), direction(1, 1), change(heavy, 0), point(0, 1), change(heavy, 0), change(heavy, 1))
        self.assertEqual(told[2:], [[-4], [1, heavy + 1, 1], [-5], [-1]])


if __name__ == "__main__":
    unittest.main()
