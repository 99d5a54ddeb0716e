"""The interface: one list in, one list out, nothing changed and nothing kept."""

import unittest

from calling import (CONSTANT, INPUT, PRODUCT, QUOTIENT, change, changes, clear, code, cost, direction, gradient,
                     hangs, move, point, quotient, series, table, value, values)
from linechanges.code import answers

CALLS = [code(2, [INPUT, 0], [INPUT, 1], [CONSTANT, 2, 4], [PRODUCT, 0, 1], [QUOTIENT, 3, 2]),
         point(6, 4, -1, 3), direction(2, 2, 0, 9), value(3), values(), change(4, 0), changes(0), change(4, 1),
         gradient(4), table(0, 3), quotient(3, 0, 1, 2), series(3, 0, 3), hangs(4), cost(), move(0, 1, 2), value(0),
         gradient(5), table(5), quotient(3, 0, 0, 1), series(3, 0, 0), hangs(5), move(0, 1, 0),
         point(1, 0), direction(1), code(13), code(1, [9]), clear(), clear()]


def joined(calls):
    return [number for call in calls for number in call]


class Interface(unittest.TestCase):
    def test_how_many_numbers_then_these(self):
        self.assertEqual(answers(joined(CALLS)), [
            1, 5,
            1, 0,
            1, 0,
            3, 1, -1, 2,
            11, 5, 3, 2, -1, 3, 1, 2, -1, 2, -1, 1,
            3, 1, -2, 3,
            11, 5, 1, 1, 0, 1, 0, 1, -1, 3, -2, 3,
            1, -1,
            5, 2, -2, 3, 3, 1,
            9, 4, 1, 1, 0, 1, -1, 3, 3, 2,
            5, 2, -1, 3, 0, 1,
            7, 3, -1, 2, -1, 3, 0, 1,
            3, 2, 0, 1,
            3, 2, 6, 6,
            1, 0,
            3, 1, 2, 1,
            1, -1,
            1, -2,
            1, -1,
            1, -1,
            1, -1,
            1, -1,
            1, -2,
            1, -2,
            1, -1,
            1, -2,
            1, 1,
            1, 0])

    def test_a_fault_has_three_numbers(self):
        calls = joined([code(1, [INPUT, 0], [QUOTIENT, 0, 0]), point(0, 1)])
        self.assertEqual(answers(calls), [1, 2, 3, 1, 1, 1])

    def test_one_call(self):
        self.assertEqual(answers([3]), [1, 0])
        self.assertEqual(answers([5]), [1, -4])
        self.assertEqual(answers([0, 0, 0]), [1, 0])
        self.assertEqual(answers([8, 0]), [1, -1])
        self.assertEqual(answers([9, 0]), [1, -4])
        self.assertEqual(answers([10, 0, 1, 1]), [1, -1])
        self.assertEqual(answers([11, 0, 0, 1, 1]), [1, -1])
        self.assertEqual(answers([12, 0, 0, 1]), [1, -1])
        self.assertEqual(answers([13, 0]), [1, -1])
        self.assertEqual(answers([14]), [3, 0, 0, 0])

    def test_lists_and_whole_numbers_come_back(self):
        told = answers(joined(CALLS))
        self.assertIs(type(told), list)
        self.assertTrue(all(type(number) is int for number in told))

    def test_what_is_handed_in_stays_as_it_was(self):
        calls = joined(CALLS)
        before = list(calls)
        answers(calls)
        self.assertEqual(calls, before)

    def test_what_is_handed_in_is_not_changed_for_a_while_either(self):
        class Watched(list):
            def refuse(self, *given):
                raise AssertionError("changed")

            __setitem__ = __delitem__ = __iadd__ = __imul__ = refuse
            append = extend = insert = pop = remove = clear = sort = reverse = refuse

        self.assertEqual(answers(Watched(joined(CALLS))), answers(joined(CALLS)))

    def test_nothing_is_kept_from_one_time_to_the_next(self):
        calls = joined(CALLS[:3])
        first = answers(calls)
        self.assertEqual(answers(calls), first)
        self.assertEqual(answers([5]), [1, -4])
        self.assertEqual(answers([3]), [1, 0])
        self.assertEqual(answers([4, 0]), [1, -1])

    def test_what_comes_back_is_not_kept(self):
        calls = joined(CALLS)
        first = answers(calls)
        kept = list(first)
        first.append(99)
        first[0] = 99
        self.assertEqual(answers(calls), kept)

    def test_400_calls_over_80_lines(self):
        lines = [[INPUT, 0], [INPUT, 1]] + [[PRODUCT, 0, 1]] * 78
        calls = [code(2, *lines)] + [direction(3, 7, -5, 11), point(1, 3, 7, 5)] + [changes(0)] * 397
        told = answers(joined(calls))
        self.assertEqual(len(told), 2 + 2 + 2 + 397 * 162)
        # 3/7 * 7/5 + 1/3 * -5/11 is 3/5 - 5/33.
        self.assertEqual(told[-160:], [3, 7, -5, 11] + [74, 165] * 78)

    def test_16000_numbers_and_400_calls_in_any_order(self):
        lines = [[INPUT, 0], [INPUT, 1]] + [[PRODUCT, 0, 1], [QUOTIENT, 2, 0]] * 38
        block = [code(2, *lines), table(*[0] * 50), cost(), direction(3, 7, -5, 11), series(77, 0, 8),
                 point(1, 3, 7, 5), quotient(77, 0, 1, 2), gradient(77), code(2, *[[INPUT, 0]] * 200), move(0, 0, 1),
                 hangs(77), values(), changes(0), series(77, 0, 8), table(77, 2), clear(), change(0, 0), value(77)]
        rest = [table(*[0] * 100)] * 4 + [cost()] * 17 + [table(*[0] * 96)]
        calls = block * 21 + rest
        numbers = joined(calls)
        self.assertEqual((len(calls), len(numbers)), (400, 16000))
        once = answers(joined(block))
        self.assertEqual(answers(numbers), once * 21 + [1, -2] * 4 + [3, 76, 228, 0] * 17 + [1, -2])


if __name__ == "__main__":
    unittest.main()
