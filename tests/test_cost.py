"""Promise 11: cost."""

import unittest

from calling import (CONSTANT, DIFFERENCE, INPUT, OPPOSITE, PRODUCT, QUOTIENT, SUM,
                     ask, clear, code, cost, direction, last, point, value)

EVERY_KIND = code(2, [INPUT, 0], [INPUT, 1], [CONSTANT, 5, 7], [SUM, 0, 1], [DIFFERENCE, 0, 1],
                  [PRODUCT, 0, 1], [QUOTIENT, 0, 1], [OPPOSITE, 0])


class Cost(unittest.TestCase):
    def test_each_kind_of_line(self):
        for kind, each in ((SUM, 1), (DIFFERENCE, 1), (PRODUCT, 3), (QUOTIENT, 3)):
            for how_many in (1, 2, 5):
                told = last(code(1, [INPUT, 0], *[[kind, 0, 0]] * how_many), direction(1, 1), cost())
                self.assertEqual(told, [how_many, each * how_many, each * how_many])
        self.assertEqual(last(code(1, [INPUT, 0], [OPPOSITE, 0], [OPPOSITE, 1]), direction(1, 1), cost()), [2, 2, 2])

    def test_inputs_and_constants_are_no_operations(self):
        self.assertEqual(last(code(1, [INPUT, 0], [CONSTANT, 3, 1], [INPUT, 0]), direction(1, 1), cost()), [0, 0, 0])

    def test_all_kinds_together(self):
        self.assertEqual(last(EVERY_KIND, direction(1, 1, 1, 1), cost()), [5, 9, 9])

    def test_with_no_directions_and_with_several(self):
        told = ask(EVERY_KIND, cost(), *[direction(1, 1, k, 1) for k in range(3)], cost(),
                   *[direction(1, 1, k, 1) for k in range(3)], cost(), direction(1, 1, 1, 1), cost(), clear(), cost())
        self.assertEqual([told[place] for place in (1, 5, 9, 10, 11, 13)],
                         [[5, 9, 0], [5, 9, 27], [5, 9, 54], [-7], [5, 9, 54], [5, 9, 0]])

    def test_80_lines(self):
        begin = code(1, [INPUT, 0], *[[PRODUCT, 0, 0]] * 79)
        self.assertEqual(last(begin, *[direction(1, 1)] * 6, cost()), [79, 237, 1422])

    def test_no_code(self):
        self.assertEqual(ask(cost(), direction(), cost(), code(4), cost()),
                         [[0, 0, 0], [0], [0, 0, 0], [0], [0, 0, 0]])

    def test_where_the_run_has_a_fault(self):
        told = ask(EVERY_KIND, direction(1, 1, 1, 1), point(1, 1, 0, 1), cost())
        self.assertEqual(told[2:], [[1, 6, 1], [5, 9, 9]])

    def test_the_code_is_that_of_now(self):
        told = ask(EVERY_KIND, direction(1, 1, 1, 1), cost(), code(1, [INPUT, 0], [SUM, 0, 0]), cost(),
                   direction(1, 1), cost(), code(1, [7]), cost())
        self.assertEqual(told[2:], [[5, 9, 9], [2], [1, 1, 0], [0], [1, 1, 1], [-2], [1, 1, 1]])

    def test_everything_is_as_it_was(self):
        told = ask(EVERY_KIND, point(1, 1, 1, 1), direction(1, 1, 1, 1), cost(), value(0), clear())
        self.assertEqual(told[3:], [[5, 9, 9], [1, 1, 1], [1]])


if __name__ == "__main__":
    unittest.main()
