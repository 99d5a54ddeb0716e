"""What was asked before never shows in a later answer: along other directions, at other points, over other code."""

import unittest

from calling import (CONSTANT, DIFFERENCE, INPUT, PRODUCT, QUOTIENT, SUM,
                     ask, change, changes, clear, code, cost, direction, gradient, hangs, move, point, quotient, series,
                     table, value, values)

LINES = [[INPUT, 0], [INPUT, 1], [PRODUCT, 0, 1], [CONSTANT, 1, 3], [SUM, 2, 3], [QUOTIENT, 0, 4]]
CODE = code(2, *LINES)
OTHER = code(2, [INPUT, 1], [INPUT, 0], [QUOTIENT, 0, 1], [CONSTANT, 5, 2], [DIFFERENCE, 2, 3], [PRODUCT, 4, 2])
# Everything that reads, over six lines and one direction at least.
READING = ([value(5), values(), change(5, 0), changes(0), gradient(5), table(5, 0, 4, 5), quotient(5, 0, -2, 7),
            hangs(5), cost()] + [series(i, 0, k) for i in (5, 2) for k in (8, 3)])


class AskedBefore(unittest.TestCase):
    def assert_like_fresh(self, before, after):
        """Behind the calls before, the calls after answer as they do where nothing was read before."""
        told = ask(*before, *after, *READING)[len(before):]
        self.assertEqual(told, ask(*after, *READING))
        self.assertTrue(all(answer[0] >= 0 for answer in told), told)

    def test_over_code_that_was_replaced(self):
        for first, second in ((CODE, OTHER), (OTHER, CODE), (CODE, CODE)):
            self.assert_like_fresh([first, point(1, 2, 3, 1), direction(1, 1, 2, 1), *READING],
                                   [second, point(4, 1, -1, 5), direction(0, 1, 1, 3)])

    def test_at_another_point(self):
        away = [direction(1, 1, 2, 1)]
        before = [CODE, *away, point(1, 2, 3, 1), *READING]
        told = ask(*before, point(4, 1, -1, 5), *READING)[len(before) + 1:]
        self.assertEqual(told, ask(CODE, *away, point(4, 1, -1, 5), *READING)[3:])
        self.assertNotEqual(told, ask(CODE, *away, point(1, 2, 3, 1), *READING)[3:])

    def test_at_a_point_that_was_moved(self):
        begin = [CODE, direction(1, 1, 2, 1), point(1, 2, 3, 1)]
        told = ask(*begin, *READING, move(0, 3, 2), *READING)[len(begin + READING) + 1:]
        self.assertEqual(told, ask(CODE, direction(1, 1, 2, 1), point(2, 1, 6, 1), *READING)[3:])
        self.assertNotEqual(told, ask(*begin, *READING)[3:])

    def test_there_and_back(self):
        begin = [CODE, direction(1, 1, 2, 1), point(1, 2, 3, 1)]
        told = ask(*begin, *READING, move(0, 3, 2), *READING, move(0, -6, 4), *READING)
        self.assertEqual(told[-len(READING):], told[3:3 + len(READING)])

    def test_along_a_direction_that_was_cleared_and_given_anew(self):
        begin = [CODE, point(1, 2, 3, 1)]
        told = ask(*begin, direction(1, 1, 2, 1), *READING, clear(), direction(-1, 3, 0, 1), *READING)
        again = told[-len(READING):]
        self.assertEqual(again, ask(*begin, direction(-1, 3, 0, 1), *READING)[3:])
        self.assertNotEqual(again, told[3:3 + len(READING)])

    def test_behind_a_point_with_a_fault(self):
        # The divisor is x * y + 1/3.
        begin = [CODE, direction(1, 1, 2, 1)]
        told = ask(*begin, point(1, 2, 3, 1), *READING, point(1, 1, -1, 3), *READING, point(0, 1, 0, 1), *READING)
        self.assertEqual(told[3 + len(READING)], [1, 5, 1])
        self.assertEqual(told[-len(READING):], ask(*begin, point(0, 1, 0, 1), *READING)[3:])

    def test_behind_refusals(self):
        begin = [CODE, direction(1, 1, 2, 1), point(1, 2, 3, 1)]
        refused = [code(13), code(1, [7]), code(0, [INPUT, 0]), point(1, 1), point(1, 0, 1, 1), direction(1),
                   move(1, 1, 1), move(0, 1, 0), quotient(5, 0, 0, 1), series(5, 0, 9), gradient(6), table(6), hangs(-1)]
        told = ask(*begin, *READING, *refused, *READING)
        self.assertTrue(all(answer[0] < 0 for answer in told[3 + len(READING):-len(READING)]))
        self.assertEqual(told[-len(READING):], told[3:3 + len(READING)])

    def test_a_direction_more_leaves_the_others(self):
        begin = [CODE, point(1, 2, 3, 1), direction(1, 1, 2, 1)]
        told = ask(*begin, series(5, 0, 8), direction(5, 1, 0, 1), series(5, 1, 8), series(5, 0, 8), series(5, 1, 8))
        self.assertEqual(told[6:], [told[3], told[5]])
        self.assertNotEqual(told[3], told[5])

    def test_one_call_s_answer_doesn_t_hang_on_the_calls_ahead_of_it(self):
        begin = [CODE, direction(1, 1, 2, 1), point(1, 2, 3, 1)]
        alone = [ask(*begin, call)[-1] for call in READING]
        self.assertEqual(ask(*begin, *READING)[3:], alone)
        self.assertEqual(ask(*begin, *reversed(READING))[3:], alone[::-1])


if __name__ == "__main__":
    unittest.main()
