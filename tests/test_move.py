"""Promise 7: move."""

import unittest
from fractions import Fraction

from calling import (CONSTANT, INPUT, LARGEST, PRODUCT, QUOTIENT, SUM,
                     ask, changes, clear, code, direction, last, move, point, power_of_two_lines, quotient, value,
                     values)


def weight(x):
    return abs(x.numerator).bit_length() + x.denominator.bit_length()


def divisors_to(wanted, sign=1):
    """Numbers m: from sign * 3/2, moved by sign over each of them in turn, the last point has just that weight."""
    found, at, m = [], Fraction(3 * sign, 2), 2 ** 59 - 1
    while weight(at) + 118 < wanted:
        found.append(m)
        at += Fraction(sign, m)
        m -= 2
    for digits in range(59, 4, -1):
        for m in range(2 ** digits + 1, 2 ** (digits + 1), 2 ** (digits - 3)):
            if m < LARGEST and weight(at + Fraction(sign, m)) == wanted:
                return found + [m]
    raise AssertionError("no such number")


class Moving(unittest.TestCase):
    def test_the_point_plus_t_times_the_direction(self):
        begin = [code(2, [INPUT, 0], [INPUT, 1], [PRODUCT, 0, 1]), point(3, 1, 1, 2), direction(1, 1, -1, 3)]
        self.assertEqual(ask(*begin, move(0, 1, 2), values())[3:], [[0], [3, 7, 2, 1, 3, 7, 6]])
        self.assertEqual(ask(*begin, move(0, -6, 4), values())[3:], [[0], [3, 3, 2, 1, 1, 3, 2]])
        self.assertEqual(ask(*begin, move(0, 3, 1), values())[3:], [[0], [3, 6, 1, -1, 2, -3, 1]])

    def test_n_of_0(self):
        told = ask(code(1, [INPUT, 0]), point(7, 3), direction(5, 1), move(0, 0, 1), value(0), move(0, 0, LARGEST),
                   value(0))
        self.assertEqual(told[3:], [[0], [1, 7, 3], [0], [1, 7, 3]])

    def test_the_largest_numbers(self):
        told = ask(code(1, [INPUT, 0]), point(0, 1), direction(1, 1), move(0, LARGEST, 1), value(0),
                   move(0, -LARGEST, 1), value(0), move(0, -1, LARGEST), value(0), move(0, LARGEST, LARGEST), value(0))
        self.assertEqual(told[4::2], [[1, LARGEST, 1], [1, 0, 1], [1, -1, LARGEST], [1, LARGEST - 1, LARGEST]])

    def test_moves_behind_one_another_along_several_directions(self):
        told = ask(code(2, [INPUT, 0], [INPUT, 1]), point(1, 1, 1, 1), direction(1, 2, 0, 1), direction(0, 1, 1, 3),
                   move(0, 1, 1), move(1, 1, 1), move(0, 1, 1), values())
        self.assertEqual(told[-1], [2, 2, 1, 4, 3])

    def test_the_directions_stay(self):
        begin = [code(1, [INPUT, 0], [PRODUCT, 0, 0]), point(1, 1), direction(2, 1), direction(3, 1)]
        told = ask(*begin, changes(1), move(0, 1, 1), changes(1), clear())
        self.assertEqual(told[4:], [[2, 3, 1, 6, 1], [0], [2, 3, 1, 18, 1], [2]])

    def test_no_inputs(self):
        self.assertEqual(last(point(), direction(), move(0, 1, 1)), [0])
        told = ask(code(0, [CONSTANT, 0, 1], [QUOTIENT, 0, 0]), point(), direction(), move(0, 1, 1))
        self.assertEqual(told[1:], [[1, 1, 1], [0], [1, 1, 1]])


class Faults(unittest.TestCase):
    inverse = [code(1, [INPUT, 0], [CONSTANT, 1, 1], [QUOTIENT, 1, 0]), direction(1, 1)]

    def test_to_a_point_with_a_fault(self):
        told = ask(*self.inverse, point(2, 1), move(0, -2, 1), value(0), values(), move(0, 3, 1), values())
        self.assertEqual(told[2:], [[0], [1, 2, 1], [-5], [-5], [0], [3, 3, 1, 1, 1, 1, 3]])

    def test_from_a_point_with_a_fault(self):
        told = ask(*self.inverse, point(0, 1), move(0, 1, 4), values())
        self.assertEqual(told[2:], [[1, 2, 1], [0], [3, 1, 4, 1, 1, 4, 1]])

    def test_from_a_fault_to_a_fault(self):
        self.assertEqual(ask(*self.inverse, point(0, 1), move(0, 0, 1), move(0, 0, 9))[2:], [[1, 2, 1]] * 3)

    def test_a_heavy_value(self):
        lines, top = power_of_two_lines(198, 1)
        at = len(lines) + 1
        begin = [code(1, [INPUT, 0], *lines, [PRODUCT, 0, top]), point(1, 1), direction(1, 1)]
        self.assertEqual(ask(*begin, move(0, 1, 1), move(0, -3, 1), value(at))[3:],
                         [[1, at, 2], [0], [1, -2 ** 198, 1]])

    def test_an_input_above_200(self):
        begin = [code(1, [CONSTANT, 1, 1], [INPUT, 0]), point(0, 1), direction(1, LARGEST)]
        told = ask(*begin, move(0, 1, LARGEST - 1), value(1), move(0, 1, LARGEST - 3), move(0, -1, LARGEST - 3),
                   value(1))
        self.assertEqual(told[3:], [[0], [1, 1, LARGEST * (LARGEST - 1)], [1, 1, 2], [0],
                                    [1, 1, LARGEST * (LARGEST - 1)]])


class Refusals(unittest.TestCase):
    begin = [code(1, [INPUT, 0]), direction(1, 1), direction(2, 1)]

    def test_m_below_1(self):
        for m in (0, -1, -LARGEST):
            self.assertEqual(ask(*self.begin, point(5, 2), move(0, 1, m), move(0, 0, m), value(0))[4:],
                             [[-1], [-1], [1, 5, 2]])

    def test_a_direction_that_is_not_there(self):
        for d in (-1, 2, LARGEST, -LARGEST):
            self.assertEqual(ask(*self.begin, point(5, 2), move(d, 1, 1), value(0))[4:], [[-1], [1, 5, 2]])
        self.assertEqual(last(move(0, 1, 1)), [-1])

    def test_no_point(self):
        self.assertEqual(ask(*self.begin, move(0, 1, 1), value(0))[3:], [[-4], [-4]])

    def test_the_range_ahead_of_the_point(self):
        self.assertEqual(ask(*self.begin, move(2, 1, 1), move(0, 1, 0))[3:], [[-1], [-1]])


class Heavy(unittest.TestCase):
    def test_a_weight_of_just_4000_and_above_it(self):
        for sign in (1, -1):
            *light, m = divisors_to(4000, sign)
            begin = [code(1, [INPUT, 0]), point(3 * sign, 2), direction(1, 1)]
            told = ask(*begin, *[move(0, sign, k) for k in light + [m]])
            self.assertEqual(told[-1], [1, 0, 2])
            *light, m = divisors_to(4001, sign)
            told = ask(*begin, *[move(0, sign, k) for k in light + [m]])
            self.assertEqual(told[-2:], [[1, 0, 2], [-6]])

    def test_a_refusal_leaves_the_point_as_it_was(self):
        *light, m = divisors_to(4001)
        begin = [code(1, [INPUT, 0], [PRODUCT, 0, 0]), point(3, 2), direction(1, 1)]
        there = [move(0, 1, k) for k in light]
        back = [move(0, -1, k) for k in reversed(light)]
        told = ask(*begin, *there, move(0, 1, m), *back, move(0, 3, 2), values(), changes(0))
        self.assertEqual(told[len(begin + there)], [-6])
        self.assertEqual(told[-3:], [[0], [2, 3, 1, 9, 1], [2, 1, 1, 6, 1]])

    def test_a_point_of_just_4000_is_taken(self):
        steps = divisors_to(4000)
        told = ask(code(1, [INPUT, 0]), point(3, 2), direction(1, 1), *[move(0, 1, k) for k in steps],
                   *[move(0, -1, k) for k in steps[:-1]], move(0, -3, 2), value(0))
        self.assertEqual(told[-1], [1, 1, steps[-1]])

    def test_an_input_that_no_line_uses(self):
        steps = divisors_to(4001)
        for n, place in ((1, 0), (2, 0), (2, 1), (12, 7)):
            away = [0, 1] * n
            away[2 * place] = 1
            begin = [code(n, [CONSTANT, 4, 1]), point(*[3, 2] * n), direction(*away)]
            told = ask(*begin, *[move(0, 1, k) for k in steps], value(0))
            self.assertEqual(told[3:], [[0]] * (len(steps) - 1) + [[-6], [1, 4, 1]])

    def test_there_is_no_such_limit_for_the_moved_point_of_quotient(self):
        steps = divisors_to(4000)
        begin = [code(2, [INPUT, 1]), point(3, 2, 5, 1), direction(1, 1, 0, 1), direction(1, 1, 2, 1)]
        told = ask(*begin, *[move(0, 1, k) for k in steps], move(0, 1, LARGEST - 1), quotient(0, 0, 1, LARGEST - 1),
                   quotient(0, 1, 1, 101), value(0))
        self.assertEqual(told[4:], [[0]] * len(steps) + [[-6], [2, 0, 1, 0, 1], [2, 2, 1, 0, 1], [1, 5, 1]])

    def test_a_lighter_point_may_be_reached_from_a_heavy_one(self):
        steps = divisors_to(4000)
        told = ask(code(1), point(3, 2), direction(1, 1), *[move(0, 1, k) for k in steps], move(0, -1, steps[0]),
                   move(0, 1, steps[0]))
        self.assertEqual(told[-2:], [[0], [0]])

    def test_the_range_ahead_of_the_weight(self):
        *light, m = divisors_to(4001)
        told = ask(code(1), point(3, 2), direction(1, 1), *[move(0, 1, k) for k in light], move(1, 1, m),
                   move(0, 1, -m), move(0, 1, m))
        self.assertEqual(told[-3:], [[-1], [-1], [-6]])


if __name__ == "__main__":
    unittest.main()
