"""Many written-out sessions, held against a second reckoning over Python's own fractions."""

import random
import unittest
from fractions import Fraction

from calling import ask, change, changes, clear, direction, point, value, values

OPERANDS = (1, 2, 2, 2, 2, 2, 1)


def weight(x):
    return abs(x.numerator).bit_length() + x.denominator.bit_length()


class Second:
    """The document's sentences again, by another way: pairs of value and change reckoned afresh at every call."""

    def __init__(self):
        self.n, self.lines, self.at, self.ways = 0, [], None, []

    def fractions(self, row):
        if len(row) != 2 * self.n or any(lower < 1 for lower in row[1::2]):
            return None
        return [Fraction(upper, lower) for upper, lower in zip(row[::2], row[1::2])]

    def run(self, way=None):
        """Pairs of value and change, and the fault or None."""
        pairs = []
        for place, (kind, *given) in enumerate(self.lines):
            if kind == 0:
                pair = (self.at[given[0]], way[given[0]] if way else Fraction(0))
            elif kind == 1:
                pair = (Fraction(*given), Fraction(0))
            else:
                (a, da), (b, db) = pairs[given[0]], pairs[given[-1]]
                if kind == 5 and b == 0:
                    return pairs, [place, 1]
                pair = {2: lambda: (a + b, da + db), 3: lambda: (a - b, da - db),
                        4: lambda: (a * b, da * b + a * db), 5: lambda: (a / b, (da * b - a * db) / b ** 2),
                        6: lambda: (-a, -da)}[kind]()
            if weight(pair[0]) > 200:
                return pairs, [place, 2]
            pairs.append(pair)
        return pairs, None

    def code(self, n, row):
        if not 0 <= n <= 12:
            return [-1]
        lines, rest = [], list(row)
        while rest:
            if rest[0] not in range(7) or len(rest) < 1 + OPERANDS[rest[0]]:
                return [-2]
            line, rest = rest[:1 + OPERANDS[rest[0]]], rest[1 + OPERANDS[rest[0]]:]
            if (line[2] < 1) if line[0] == 1 else any(k < 0 for k in line[1:]):
                return [-2]
            lines.append(line)
        if len(lines) > 80:
            return [-7]
        for place, (kind, *given) in enumerate(lines):
            limit = {0: n, 1: None}.get(kind, place)
            if limit is not None and any(k >= limit for k in given):
                return [-3]
        self.n, self.lines, self.at, self.ways = n, lines, None, []
        return [len(lines)]

    def point(self, row):
        found = self.fractions(row)
        if found is None:
            return [-2]
        self.at = found
        fault = self.run()[1]
        return [0] if fault is None else [1] + fault

    def direction(self, row):
        found = self.fractions(row)
        if found is None:
            return [-2]
        if len(self.ways) == 6:
            return [-7]
        self.ways.append(found)
        return [len(self.ways) - 1]

    def clear(self):
        self.ways, before = [], self.ways
        return [len(before)]

    def tell(self, column, i=None, d=None):
        if i is not None and i not in range(len(self.lines)) or d is not None and d not in range(len(self.ways)):
            return [-1]
        if self.at is None:
            return [-4]
        pairs, fault = self.run(None if d is None else self.ways[d])
        if fault is not None:
            return [-5]
        told = [pair[column] for pair in (pairs if i is None else [pairs[i]])]
        if any(weight(x) > 4000 for x in told):
            return [-6]
        return [len(told)] + [number for x in told for number in (x.numerator, x.denominator)]

    def answer(self, call):
        kind, *given = call
        if kind == 0:
            return self.code(given[0], given[2:])
        if kind in (1, 2):
            return (self.point if kind == 1 else self.direction)(given[1:])
        if kind == 3:
            return self.clear()
        names = {4: "i", 5: "", 6: "id", 7: "d"}[kind]
        return self.tell(0 if kind < 6 else 1, **dict(zip(names, given)))


class Maker:
    """Sessions made from a seed, so that every run of the tests has the same."""

    def __init__(self, seed):
        self.chance = random.Random(seed)
        self.n, self.length = 0, 0
        self.size = self.chance.choice((3, 12, 10 ** 6, 10 ** 18))

    def number(self):
        return self.chance.randint(-self.size, self.size)

    def row(self):
        numbers = []
        for k in range(self.n):
            numbers += [self.number() if self.chance.random() < 0.9 else 0, self.chance.randint(1, self.size)]
        if self.chance.random() < 0.08:
            spoil = self.chance.randrange(3)
            if spoil == 0:
                numbers.append(1)
            elif spoil == 1:
                numbers = numbers[:-2]
            elif numbers:
                numbers[-1] = self.chance.randint(-2, 0)
        return numbers

    def line(self, place):
        kind = self.chance.choice((0, 1, 2, 2, 3, 3, 4, 4, 5, 6)) if place else self.chance.choice((0, 1))
        if kind == 0:
            return [0, self.chance.randrange(self.n)] if self.n else [1, 1, 1]
        if kind == 1:
            return [1, self.number(), self.chance.randint(1, self.size)]
        near = max(0, place - self.chance.choice((3, 10, 80)))
        return [kind] + [self.chance.randrange(near, place) for k in range(OPERANDS[kind])]

    def code(self):
        n = self.chance.choice((0, 1, 1, 2, 2, 3, 3, 5, 12, 13, -1))
        self.n = max(0, min(n, 12))
        self.length = self.chance.choice((0, 3, 6, 10, 20, 40, 80, 81))
        numbers = [number for place in range(self.length) for number in self.line(place)]
        if numbers and self.chance.random() < 0.2:
            numbers[self.chance.randrange(len(numbers))] = self.chance.choice((-1, 0, 1, 2, 7, 80))
        return [0, n, len(numbers)] + numbers

    def call(self):
        i = self.chance.randint(-1, self.length) if self.chance.random() < 0.2 else self.chance.randrange(self.length + 1)
        d = self.chance.choice((0, 0, 0, 1, 2, 3, 5, 6, -1))
        return self.chance.choices(
            (self.code, lambda: point(*self.row()), lambda: direction(*self.row()), clear,
             lambda: value(i), values, lambda: change(i, d), lambda: changes(d)),
            (1, 5, 6, 1, 6, 4, 8, 5))[0]()

    def session(self):
        return [self.code() if self.chance.random() < 0.95 else self.call()] + [self.call() for k in range(40)]


def heavy_session(seed):
    """Inputs at 0 keep the products light, while their changes grow past what may be told."""
    chance = random.Random(seed)
    lines = [[0, 0], [0, 1]] + [[1, chance.randint(1, 2 ** 48), chance.randint(1, 2 ** 48)] for k in range(3)]
    lines += [[4, 2, 3], [4, 3, 4], [4, 4, 2]]
    grown = [0, 1]
    while len(lines) < 80:
        kind = chance.choice((2, 3, 4, 4, 4, 4, 4, 5, 6))
        operands = [chance.choice(grown[-2:])]
        if kind in (2, 3):
            operands.append(chance.choice(grown[-2:]))
        elif kind in (4, 5):
            operands.append(chance.randint(5, 7))
        grown.append(len(lines))
        lines.append([kind] + operands)
    numbers = [number for line in lines for number in line]
    calls = [[0, 2, len(numbers)] + numbers, point(0, 1, 0, 1)]
    for d in range(2):
        calls.append(direction(*[chance.randint(1, 10 ** 18) for k in range(4)]))
        calls += [change(i, d) for i in range(80)] + [changes(d)]
    return calls


class AgainstFractions(unittest.TestCase):
    def assert_answers(self, calls, seed):
        second = Second()
        wanted = [second.answer(call) for call in calls]
        self.assertEqual(ask(*calls), wanted, seed)
        return [(call[0], min(answer[0], 0)) for call, answer in zip(calls, wanted)]

    def test_many_sessions(self):
        seen = {}
        for seed in range(400):
            for pair in self.assert_answers(Maker(seed).session(), seed):
                seen[pair] = True
        # The sessions are worth something only if they come upon what the calls can answer.
        wanted = {0: (0, -1, -2, -3, -7), 1: (0, -2), 2: (0, -2, -7), 3: (0,), 4: (0, -1, -4, -5),
                  5: (0, -4, -5), 6: (0, -1, -4, -5), 7: (0, -1, -4, -5)}
        for kind, numbers in wanted.items():
            for number in numbers:
                self.assertIn((kind, number), seen)

    def test_heavy_changes(self):
        seen = {}
        for seed in range(8):
            for pair in self.assert_answers(heavy_session(seed), seed):
                seen[pair] = True
        for number in (0, -6):
            self.assertIn((6, number), seen)


if __name__ == "__main__":
    unittest.main()
