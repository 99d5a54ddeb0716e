"""Promise 3: dir and clear."""

import unittest

from calling import (INPUT, LARGEST, PRODUCT, ask, change, changes, clear, code, direction, last, point, value)


class Adding(unittest.TestCase):
    def test_6_directions_and_a_seventh(self):
        told = ask(code(1, [INPUT, 0]), *[direction(k, 1) for k in range(7)], clear())
        self.assertEqual(told[1:], [[0], [1], [2], [3], [4], [5], [-7], [6]])

    def test_they_stand_behind_one_another(self):
        told = ask(code(1, [INPUT, 0]), point(1, 1), *[direction(10 + k, 1) for k in range(7)],
                   *[change(0, k) for k in range(7)])
        self.assertEqual(told[9:], [[1, 10 + k, 1] for k in range(6)] + [[-1]])

    def test_no_point_is_needed(self):
        self.assertEqual(last(code(1), direction(1, 1)), [0])

    def test_a_fault_at_the_point_is_no_hindrance(self):
        told = ask(code(1, [INPUT, 0], [5, 0, 0]), point(0, 1), direction(1, 1), clear())
        self.assertEqual(told[1:], [[1, 1, 1], [0], [1]])

    def test_the_point_stays(self):
        self.assertEqual(last(code(1, [INPUT, 0]), point(4, 6), direction(1, 1), clear(), value(0)), [1, 2, 3])

    def test_no_inputs(self):
        self.assertEqual(ask(direction(), direction(), clear()), [[0], [1], [2]])
        self.assertEqual(last(direction(1, 1)), [-2])

    def test_fractions_not_in_lowest_terms(self):
        told = ask(code(3, [INPUT, 0], [INPUT, 1], [INPUT, 2]), point(1, 1, 1, 1, 1, 1),
                   direction(6, 4, -6, 9, 0, LARGEST), changes(0))
        self.assertEqual(told[-1], [3, 3, 2, -2, 3, 0, 1])


class Wrong(unittest.TestCase):
    lists = [(), (1,), (1, 1), (1, 1, 1), (1, 1, 1, 1, 1), (1, 1, 1, 1, 1, 1),
             (1, 0, 1, 1), (1, 1, 1, 0), (1, 1, 1, -1), (0, 0, 0, 1), tuple([1] * 100)]

    def test_the_form(self):
        for numbers in self.lists:
            self.assertEqual(ask(code(2), direction(*numbers), clear())[1:], [[-2], [0]], numbers)

    def test_the_form_ahead_of_too_many(self):
        begin = [code(2)] + [direction(1, 1, 1, 1)] * 6
        for numbers in self.lists:
            self.assertEqual(ask(*begin, direction(*numbers), clear())[7:], [[-2], [6]], numbers)

    def test_a_refusal_leaves_everything_as_it_was(self):
        begin = [code(1, [INPUT, 0], [PRODUCT, 0, 0]), point(3, 1)] + [direction(k, 1) for k in range(6)]
        for call, number in ((direction(9, 0), -2), (direction(9, 1), -7)):
            told = ask(*begin, call, *[changes(k) for k in range(6)], value(0), clear())
            self.assertEqual(told[8:], [[number]] + [[2, k, 1, 6 * k, 1] for k in range(6)] + [[1, 3, 1], [6]])


class Clearing(unittest.TestCase):
    def test_how_many_there_were(self):
        self.assertEqual(ask(clear(), clear()), [[0], [0]])
        told = ask(code(1), direction(1, 1), direction(1, 1), clear(), clear())
        self.assertEqual(told[3:], [[2], [0]])

    def test_there_are_none_any_more(self):
        told = ask(code(1, [INPUT, 0]), point(1, 1), direction(1, 1), change(0, 0), clear(),
                   change(0, 0), changes(0), direction(5, 1), change(0, 0), change(0, 1))
        self.assertEqual(told[3:], [[1, 1, 1], [1], [-1], [-1], [0], [1, 5, 1], [-1]])

    def test_there_is_room_again(self):
        told = ask(code(1), *[direction(1, 1)] * 6, clear(), *[direction(1, 1)] * 7)
        self.assertEqual(told[7:], [[6], [0], [1], [2], [3], [4], [5], [-7]])

    def test_code_and_point_stay(self):
        self.assertEqual(last(code(1, [INPUT, 0]), point(7, 3), direction(1, 1), clear(), value(0)), [1, 7, 3])


if __name__ == "__main__":
    unittest.main()
