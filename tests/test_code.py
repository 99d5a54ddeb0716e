"""Promise 1: code."""

import unittest

from calling import (CONSTANT, DIFFERENCE, INPUT, LARGEST, OPPOSITE, PRODUCT, QUOTIENT, SUM,
                     ask, change, changes, clear, code, direction, last, point, value, values)


def raw(n, numbers):
    return [0, n, len(numbers)] + list(numbers)


class HowMany(unittest.TestCase):
    def test_the_example_of_the_document_is_four_lines(self):
        self.assertEqual(last(raw(2, [0, 0, 0, 1, 4, 0, 1, 2, 2, 0])), [4])

    def test_no_lines(self):
        self.assertEqual(last(code(0)), [0])
        self.assertEqual(last(code(12)), [0])

    def test_each_kind_of_line(self):
        lines = [[INPUT, 0], [CONSTANT, -3, 4], [SUM, 0, 1], [DIFFERENCE, 2, 0], [PRODUCT, 3, 3],
                 [QUOTIENT, 4, 1], [OPPOSITE, 5]]
        for how_many in range(len(lines) + 1):
            self.assertEqual(last(code(1, *lines[:how_many])), [how_many])

    def test_80_lines_and_81(self):
        self.assertEqual(last(code(1, *[[INPUT, 0]] * 80)), [80])
        self.assertEqual(last(code(1, *[[INPUT, 0]] * 81)), [-7])
        self.assertEqual(last(code(1, *[[INPUT, 0]] * 200)), [-7])

    def test_a_line_may_use_the_line_just_before_and_one_line_twice(self):
        self.assertEqual(last(code(1, [INPUT, 0], [OPPOSITE, 0], [SUM, 1, 1])), [3])


class Range(unittest.TestCase):
    def test_n_of_0_and_12_and_just_outside(self):
        for n in (0, 1, 12):
            self.assertEqual(last(code(n, [CONSTANT, 1, 1])), [1])
        for n in (-1, 13, LARGEST, -LARGEST):
            self.assertEqual(last(code(n, [CONSTANT, 1, 1])), [-1])


class Form(unittest.TestCase):
    def assert_form(self, numbers, answer, n=2):
        self.assertEqual(last(raw(n, numbers)), answer, numbers)

    def test_a_kind_outside_0_to_6(self):
        for kind in (-1, 7, LARGEST, -LARGEST):
            self.assert_form([kind], [-2])
            self.assert_form([kind, 0, 0], [-2])
            self.assert_form([0, 0, kind, 0, 0], [-2])

    def test_numbers_that_are_not_all_there(self):
        for kind, needed in enumerate((1, 2, 2, 2, 2, 2, 1)):
            begin = [0, 0, 0, 1]
            for there in range(needed):
                self.assert_form(begin + [kind] + [1] * there, [-2])
            self.assert_form(begin + [kind] + [1] * needed, [3])

    def test_a_number_too_many_begins_another_line(self):
        self.assert_form([0, 0, 0], [-2])
        self.assert_form([0, 0, 9], [-2])
        self.assert_form([6, 0, 0], [-2])

    def test_numbers_of_lines_and_inputs_below_0(self):
        self.assert_form([0, -1], [-2])
        self.assert_form([0, 0, 6, -1], [-2])
        for kind in (SUM, DIFFERENCE, PRODUCT, QUOTIENT):
            self.assert_form([0, 0, kind, -1, 0], [-2])
            self.assert_form([0, 0, kind, 0, -1], [-2])
            self.assert_form([0, 0, kind, 0, -LARGEST], [-2])

    def test_the_denominator_of_a_constant(self):
        self.assert_form([1, 5, 0], [-2])
        self.assert_form([1, 5, -1], [-2])
        self.assert_form([1, 0, 0], [-2])
        self.assert_form([1, -5, 1], [1])
        self.assert_form([1, -LARGEST, LARGEST], [1])


class Uses(unittest.TestCase):
    def test_a_line_that_is_not_earlier(self):
        for place in (1, 2, LARGEST):
            self.assertEqual(last(code(1, [INPUT, 0], [OPPOSITE, place])), [-3])
            for kind in (SUM, DIFFERENCE, PRODUCT, QUOTIENT):
                self.assertEqual(last(code(1, [INPUT, 0], [kind, place, 0], [INPUT, 0])), [-3])
                self.assertEqual(last(code(1, [INPUT, 0], [kind, 0, place], [INPUT, 0])), [-3])

    def test_the_first_line_has_no_earlier_one(self):
        self.assertEqual(last(code(1, [OPPOSITE, 0])), [-3])
        self.assertEqual(last(code(1, [SUM, 0, 0])), [-3])

    def test_an_input_that_is_not_one_of_the_n(self):
        for n in (0, 1, 12):
            self.assertEqual(last(code(n, [CONSTANT, 1, 1], [INPUT, n])), [-3])
            self.assertEqual(last(code(n, [INPUT, LARGEST])), [-3])
        for n in (1, 12):
            self.assertEqual(last(code(n, [INPUT, n - 1])), [1])

    def test_the_numbers_of_a_constant_are_no_lines(self):
        self.assertEqual(last(code(0, [CONSTANT, 7, 9])), [1])


class Order(unittest.TestCase):
    def test_range_ahead_of_form(self):
        self.assertEqual(last(raw(13, [7])), [-1])
        self.assertEqual(last(raw(-1, [0, 0] * 81 + [9])), [-1])

    def test_range_ahead_of_too_many_and_of_uses(self):
        self.assertEqual(last(code(13, *[[INPUT, 0]] * 81)), [-1])
        self.assertEqual(last(code(13, [INPUT, 13])), [-1])

    def test_form_ahead_of_too_many(self):
        self.assertEqual(last(raw(1, [0, 0] * 81 + [7])), [-2])
        self.assertEqual(last(raw(1, [0, 0] * 81 + [1, 1, 0])), [-2])
        self.assertEqual(last(raw(1, [0, 0] * 199 + [2, 0])), [-2])

    def test_form_ahead_of_uses(self):
        self.assertEqual(last(raw(1, [0, 5, 6, 9, 6, -1])), [-2])
        self.assertEqual(last(raw(1, [0, 5, 7])), [-2])

    def test_too_many_ahead_of_uses(self):
        self.assertEqual(last(code(1, [INPUT, 1], *[[INPUT, 0]] * 80)), [-7])
        self.assertEqual(last(code(1, *[[INPUT, 0]] * 80, [OPPOSITE, 80])), [-7])


class WhatIsHeld(unittest.TestCase):
    def test_the_lines_are_those_told_last(self):
        told = ask(code(1, [INPUT, 0]), code(2, [INPUT, 1], [OPPOSITE, 0]), point(1, 2, 3, 4), values())
        self.assertEqual(told, [[1], [2], [0], [2, 3, 4, -3, 4]])

    def test_code_takes_the_point_and_the_directions_away(self):
        lines = [[INPUT, 0]]
        told = ask(code(1, *lines), point(5, 1), direction(1, 1), direction(2, 1), change(0, 1),
                   code(1, *lines), value(0), values(), change(0, 0), changes(0), clear(),
                   direction(3, 1), value(0), change(0, 0), point(7, 1), change(0, 0))
        self.assertEqual(told[4:], [[1, 2, 1], [1], [-4], [-4], [-1], [-1], [0],
                                    [0], [-4], [-4], [0], [1, 3, 1]])

    def test_a_refusal_leaves_everything_as_it_was(self):
        refused = [raw(13, []), raw(1, [7]), raw(1, [0, 0] * 81), raw(1, [0, 1])]
        for call, number in zip(refused, (-1, -2, -7, -3)):
            told = ask(code(2, [INPUT, 0], [INPUT, 1], [PRODUCT, 0, 1]), point(2, 1, 3, 1),
                       direction(1, 1, 0, 1), changes(0), call, values(), changes(0), point(1, 1), clear())
            self.assertEqual(told[3:], [[3, 1, 1, 0, 1, 3, 1], [number], [3, 2, 1, 3, 1, 6, 1],
                                        [3, 1, 1, 0, 1, 3, 1], [-2], [1]])

    def test_at_the_beginning_there_is_no_code(self):
        self.assertEqual(ask(value(0)), [[-1]])
        self.assertEqual(ask(values()), [[-4]])
        self.assertEqual(ask(point(1, 1)), [[-2]])
        self.assertEqual(ask(point(), values(), value(0)), [[0], [0], [-1]])
        self.assertEqual(ask(direction(), changes(0), point(), changes(0), change(0, 0), clear()),
                         [[0], [-4], [0], [0], [-1], [1]])


if __name__ == "__main__":
    unittest.main()
