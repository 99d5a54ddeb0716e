"""Promise 6: gradient and table."""

import unittest

from calling import (CONSTANT, DIFFERENCE, INPUT, LARGEST, OPPOSITE, PRODUCT, QUOTIENT, SUM,
                     ask, changes, clear, climbing_lines, code, direction, gradient, last, point, table, value, values)

EVERY_KIND = code(2, [INPUT, 0], [INPUT, 1], [CONSTANT, 5, 7], [SUM, 0, 1], [DIFFERENCE, 0, 1],
                  [PRODUCT, 0, 1], [QUOTIENT, 0, 1], [OPPOSITE, 0])
AT = point(3, 1, 2, 1)
# By line, along input 0 and along input 1, at 3 and 2.
PARTIALS = [[1, 1, 0, 1], [0, 1, 1, 1], [0, 1, 0, 1], [1, 1, 1, 1], [1, 1, -1, 1],
            [2, 1, 3, 1], [1, 2, -3, 4], [-1, 1, 0, 1]]


class Gradient(unittest.TestCase):
    def test_each_kind_of_line(self):
        told = ask(EVERY_KIND, AT, *[gradient(i) for i in range(8)])
        self.assertEqual(told[2:], [[2] + partials for partials in PARTIALS])

    def test_a_line_made_of_one_line_twice(self):
        begin = code(1, [INPUT, 0], [SUM, 0, 0], [DIFFERENCE, 0, 0], [PRODUCT, 0, 0], [QUOTIENT, 0, 0])
        told = ask(begin, point(-5, 3), *[gradient(i) for i in range(5)])
        self.assertEqual(told[2:], [[1, 1, 1], [1, 2, 1], [1, 0, 1], [1, -10, 3], [1, 0, 1]])

    def test_one_input_in_several_lines(self):
        begin = code(2, [INPUT, 1], [INPUT, 1], [PRODUCT, 0, 1], [INPUT, 0], [QUOTIENT, 2, 3])
        self.assertEqual(last(begin, point(2, 1, 5, 1), gradient(4)), [2, -25, 4, 5, 1])

    def test_no_inputs(self):
        begin = code(0, [CONSTANT, 1, 2], [OPPOSITE, 0])
        self.assertEqual(ask(begin, point(), gradient(0), gradient(1))[2:], [[0], [0]])

    def test_12_inputs(self):
        lines = [[INPUT, k] for k in range(12)] + [[PRODUCT, 0, 1]]
        for k in range(2, 12):
            lines.append([PRODUCT, len(lines) - 1, k])
        told = last(code(12, *lines), point(*[number for k in range(12) for number in (1, k + 1)]),
                    gradient(len(lines) - 1))
        whole = 479001600
        self.assertEqual(told, [12] + [number for k in range(12) for number in (1, whole // (k + 1))])

    def test_an_input_that_no_line_uses_is_told_too(self):
        self.assertEqual(last(code(3, [INPUT, 1]), point(1, 1, 1, 1, 1, 1), gradient(0)), [3, 0, 1, 1, 1, 0, 1])

    def test_the_directions_don_t_matter(self):
        told = ask(EVERY_KIND, AT, gradient(5), direction(7, 1, 9, 1), changes(0), gradient(5), clear(), gradient(5))
        for place in (2, 5, 7):
            self.assertEqual(told[place], [2, 2, 1, 3, 1])

    def test_at_a_later_point(self):
        told = ask(EVERY_KIND, AT, gradient(5), point(-1, 2, 1, 3), gradient(5), AT, gradient(5))
        self.assertEqual(told[2::2], [[2, 2, 1, 3, 1], [2, 1, 3, -1, 2], [2, 2, 1, 3, 1]])


class Table(unittest.TestCase):
    def test_the_told_lines_in_their_order(self):
        self.assertEqual(last(EVERY_KIND, AT, table(6, 0, 5)), [6] + PARTIALS[6] + PARTIALS[0] + PARTIALS[5])

    def test_a_line_told_more_than_once(self):
        self.assertEqual(last(EVERY_KIND, AT, table(5, 1, 5, 5)),
                         [8] + PARTIALS[5] + PARTIALS[1] + PARTIALS[5] + PARTIALS[5])

    def test_no_number(self):
        self.assertEqual(last(EVERY_KIND, AT, table()), [0])
        self.assertEqual(ask(point(), table())[1], [0])

    def test_12_numbers_and_13(self):
        self.assertEqual(last(EVERY_KIND, AT, table(*[6] * 12)), [24] + PARTIALS[6] * 12)
        self.assertEqual(last(EVERY_KIND, AT, table(*[6] * 13)), [-2])
        self.assertEqual(last(EVERY_KIND, AT, table(*[6] * 100)), [-2])

    def test_12_lines_over_12_inputs(self):
        begin = code(12, *[[INPUT, 11 - k] for k in range(12)])
        told = last(begin, point(*[2, 1] * 12), table(*range(12)))
        self.assertEqual(told[0], 144)
        for i in range(12):
            for k in range(12):
                place = 1 + 2 * (12 * i + k)
                self.assertEqual(told[place:place + 2], [1 if k == 11 - i else 0, 1])

    def test_no_inputs(self):
        self.assertEqual(last(code(0, [CONSTANT, 1, 2]), point(), table(0, 0)), [0])

    def test_a_number_that_is_no_line_s(self):
        for i in (-1, 8, LARGEST, -LARGEST):
            for row in ((i,), (0, i), (i, 0), (0, i, 0)):
                self.assertEqual(last(EVERY_KIND, AT, table(*row)), [-2], row)
        self.assertEqual(last(table(0)), [-2])


class Refusals(unittest.TestCase):
    def test_a_line_that_is_not_there(self):
        for i in (-1, 8, LARGEST, -LARGEST):
            self.assertEqual(last(EVERY_KIND, AT, gradient(i)), [-1])
        self.assertEqual(last(gradient(0)), [-1])

    def test_no_point(self):
        self.assertEqual(ask(EVERY_KIND, gradient(0), table(0), table())[1:], [[-4], [-4], [-4]])

    def test_a_fault(self):
        told = ask(EVERY_KIND, point(1, 1, 0, 1), gradient(0), gradient(7), table(0), table())
        self.assertEqual(told[1:], [[1, 6, 1], [-5], [-5], [-5], [-5]])

    def test_the_range_and_the_form_ahead_of_the_point_and_of_a_fault(self):
        wrong = [gradient(8), gradient(-1), table(8), table(0, -1), table(*[0] * 13)]
        for begin in ([EVERY_KIND], [EVERY_KIND, point(1, 1, 0, 1)]):
            self.assertEqual(ask(*begin, *wrong)[len(begin):], [[-1], [-1], [-2], [-2], [-2]])

    def test_a_refusal_leaves_everything_as_it_was(self):
        told = ask(EVERY_KIND, AT, direction(1, 1, 1, 1), gradient(9), table(9), value(5), changes(0), clear())
        self.assertEqual(told[3:], [[-1], [-2], [1, 6, 1],
                                    [8, 1, 1, 1, 1, 0, 1, 2, 1, 0, 1, 5, 1, -1, 4, -1, 1], [1]])


class Heavy(unittest.TestCase):
    def test_a_weight_of_just_4000_and_above_it(self):
        for rest, numbers in ((38, [2 ** 3998, 1]), (39, None)):
            lines = climbing_lines(20, rest)
            heavy = len(lines) - 1
            told = ask(code(1, *lines), point(0, 1), gradient(heavy), table(0, heavy), table(heavy, heavy), table(0, 0))
            if numbers:
                self.assertEqual(told[2:5], [[1] + numbers, [2, 1, 1] + numbers, [2] + numbers * 2])
            else:
                self.assertEqual(told[2:5], [[-6], [-6], [-6]])
            self.assertEqual(told[5], [2, 1, 1, 1, 1])

    def test_one_heavy_partial_among_light_ones(self):
        lines = climbing_lines(20, 39, ([INPUT, 1],))
        heavy = len(lines) - 1
        lines += [[INPUT, 0], [SUM, heavy, heavy + 1], [INPUT, 2], [SUM, heavy + 2, heavy + 3]]
        told = ask(code(3, *lines), point(5, 1, 0, 1, 7, 1), gradient(heavy + 4), gradient(heavy + 1),
                   table(heavy + 1, heavy + 4), gradient(heavy - 1), values())
        self.assertEqual(told[2:6], [[-6], [3, 1, 1, 0, 1, 0, 1], [-6], [3, 0, 1, 2 ** 3960, 1, 0, 1]])
        self.assertEqual(told[6][-2:], [12, 1])

    def test_the_point_and_a_fault_ahead_of_the_weight(self):
        lines = climbing_lines(20, 39) + [[QUOTIENT, 1, 0]]
        heavy = len(lines) - 2
        told = ask(code(1, *lines), gradient(heavy), table(heavy), point(0, 1), gradient(heavy), table(heavy))
        self.assertEqual(told[1:], [[-4], [-4], [1, heavy + 1, 1], [-5], [-5]])


if __name__ == "__main__":
    unittest.main()
