"""Many written-out sessions, held against a second reckoning over Python's own fractions."""

import random
import unittest
from fractions import Fraction

from calling import (ask, change, changes, clear, cost, direction, gradient, hangs, move, point, quotient, series,
                     table, value, values)

OPERANDS = (1, 2, 2, 2, 2, 2, 1)


def weight(x):
    return abs(x.numerator).bit_length() + x.denominator.bit_length()


class Second:
    """The document's sentences again, by another way: pairs of value and change reckoned afresh at every call."""

    def __init__(self):
        self.n, self.lines, self.at, self.ways = 0, [], None, []

    def fractions(self, row):
        if len(row) != 2 * self.n or any(lower < 1 for lower in row[1::2]):
            return None
        return [Fraction(upper, lower) for upper, lower in zip(row[::2], row[1::2])]

    def run(self, way=None, at=None):
        """Pairs of value and change, and the fault or None."""
        pairs, at = [], self.at if at is None else at
        for place, (kind, *given) in enumerate(self.lines):
            if kind == 0:
                pair = (at[given[0]], way[given[0]] if way else Fraction(0))
            elif kind == 1:
                pair = (Fraction(*given), Fraction(0))
            else:
                (a, da), (b, db) = pairs[given[0]], pairs[given[-1]]
                if kind == 5 and b == 0:
                    return pairs, [place, 1]
                pair = {2: lambda: (a + b, da + db), 3: lambda: (a - b, da - db),
                        4: lambda: (a * b, da * b + a * db), 5: lambda: (a / b, (da * b - a * db) / b ** 2),
                        6: lambda: (-a, -da)}[kind]()
            if weight(pair[0]) > 200:
                return pairs, [place, 2]
            pairs.append(pair)
        return pairs, None

    def code(self, n, row):
        if not 0 <= n <= 12:
            return [-1]
        lines, rest = [], list(row)
        while rest:
            if rest[0] not in range(7) or len(rest) < 1 + OPERANDS[rest[0]]:
                return [-2]
            line, rest = rest[:1 + OPERANDS[rest[0]]], rest[1 + OPERANDS[rest[0]]:]
            if (line[2] < 1) if line[0] == 1 else any(k < 0 for k in line[1:]):
                return [-2]
            lines.append(line)
        if len(lines) > 80:
            return [-7]
        for place, (kind, *given) in enumerate(lines):
            limit = {0: n, 1: None}.get(kind, place)
            if limit is not None and any(k >= limit for k in given):
                return [-3]
        self.n, self.lines, self.at, self.ways = n, lines, None, []
        return [len(lines)]

    def point(self, row):
        found = self.fractions(row)
        if found is None:
            return [-2]
        self.at = found
        fault = self.run()[1]
        return [0] if fault is None else [1] + fault

    def direction(self, row):
        found = self.fractions(row)
        if found is None:
            return [-2]
        if len(self.ways) == 6:
            return [-7]
        self.ways.append(found)
        return [len(self.ways) - 1]

    def clear(self):
        self.ways, before = [], self.ways
        return [len(before)]

    def refusal(self, right=True, i=None, d=None, row=()):
        if not right or i is not None and i not in range(len(self.lines)):
            return [-1]
        if d is not None and d not in range(len(self.ways)):
            return [-1]
        if len(row) > 12 or any(k not in range(len(self.lines)) for k in row):
            return [-2]
        if self.at is None:
            return [-4]
        return None if self.run()[1] is None else [-5]

    def tell(self, fractions):
        if any(weight(x) > 4000 for x in fractions):
            return [-6]
        return [len(fractions)] + [number for x in fractions for number in (x.numerator, x.denominator)]

    def pairs(self, column, i=None, d=None):
        pairs = self.run(None if d is None else self.ways[d])[0]
        return self.tell([pair[column] for pair in (pairs if i is None else [pairs[i]])])

    def partials(self, i):
        return [self.run([Fraction(int(other == k)) for other in range(self.n)])[0][i][1] for k in range(self.n)]

    def table(self, row):
        return self.tell([x for i in row for x in self.partials(i)])

    def away(self, d, n, m):
        return [x + Fraction(n, m) * w for x, w in zip(self.at, self.ways[d])]

    def move(self, d, n, m):
        refusal = self.refusal(m >= 1, d=d)
        if refusal in ([-1], [-4]):
            return refusal
        there = self.away(d, n, m)
        if any(weight(x) > 4000 for x in there):
            return [-6]
        self.at = there
        fault = self.run()[1]
        return [0] if fault is None else [1] + fault

    def quotient(self, i, d, n, m):
        pairs, fault = self.run(at=self.away(d, n, m))
        if fault is not None:
            return [-5]
        here = self.run(self.ways[d])[0][i]
        q = (pairs[i][0] - here[0]) / Fraction(n, m)
        return self.tell([q, q - here[1]])

    def series(self, i, d, k):
        def times(a, b):
            return [sum((a[s] * b[r - s] for s in range(r + 1)), Fraction(0)) for r in range(k)]

        def inverse(b):
            found = [1 / b[0]]
            for r in range(1, k):
                found.append(-sum((b[s] * found[r - s] for s in range(1, r + 1)), Fraction(0)) / b[0])
            return found

        rows = []
        for kind, *given in self.lines[:i + 1]:
            if kind < 2:
                row = [self.at[given[0]], self.ways[d][given[0]]] if kind == 0 else [Fraction(*given)]
                rows.append((row + [Fraction(0)] * k)[:k])
                continue
            a, b = rows[given[0]], rows[given[-1]]
            rows.append({2: lambda: [x + y for x, y in zip(a, b)], 3: lambda: [x - y for x, y in zip(a, b)],
                         4: lambda: times(a, b), 5: lambda: times(a, inverse(b)), 6: lambda: [-x for x in a]}[kind]())
        return self.tell(rows[i])

    def hangs(self, i):
        if i not in range(len(self.lines)):
            return [-1]
        known = []
        for kind, *given in self.lines[:i + 1]:
            known.append(set(given[:1 - kind]) if kind < 2 else known[given[0]] | known[given[-1]])
        return [len(known[i])] + sorted(known[i])

    def cost(self):
        kinds = [line[0] for line in self.lines if line[0] > 1]
        one = sum(3 if kind in (4, 5) else 1 for kind in kinds)
        return [len(kinds), one, one * len(self.ways)]

    def answer(self, call):
        kind, *given = call
        if kind == 0:
            return self.code(given[0], given[2:])
        if kind in (1, 2):
            return (self.point if kind == 1 else self.direction)(given[1:])
        if kind in (3, 14):
            return (self.clear if kind == 3 else self.cost)()
        if kind in (10, 13):
            return (self.move if kind == 10 else self.hangs)(*given)
        wrong = kind == 11 and (given[2] == 0 or given[3] < 1) or kind == 12 and given[2] not in range(1, 9)
        names = {4: "i", 5: "", 6: "id", 7: "d", 8: "i", 9: "", 11: "id", 12: "id"}[kind]
        refusal = self.refusal(not wrong, **dict(zip(names, given)), row=given[1:] if kind == 9 else ())
        if refusal:
            return refusal
        if kind < 8:
            return self.pairs(0 if kind < 6 else 1, **dict(zip(names, given)))
        return {8: lambda: self.table(given), 9: lambda: self.table(given[1:]), 11: lambda: self.quotient(*given),
                12: lambda: self.series(*given)}[kind]()


class Maker:
    """Sessions made from a seed, so that every run of the tests has the same."""

    def __init__(self, seed):
        self.chance = random.Random(seed)
        self.n, self.length = 0, 0
        self.size = self.chance.choice((3, 3, 12, 10 ** 6, 10 ** 18))

    def number(self):
        return self.chance.randint(-self.size, self.size)

    def row(self):
        numbers = []
        for k in range(self.n):
            numbers += [self.number() if self.chance.random() < 0.9 else 0, self.chance.randint(1, self.size)]
        if self.chance.random() < 0.08:
            spoil = self.chance.randrange(3)
            if spoil == 0:
                numbers.append(1)
            elif spoil == 1:
                numbers = numbers[:-2]
            elif numbers:
                numbers[-1] = self.chance.randint(-2, 0)
        return numbers

    def line(self, place):
        kind = self.chance.choice((0, 1, 2, 2, 3, 3, 4, 4, 5, 6)) if place else self.chance.choice((0, 1))
        if kind == 0:
            return [0, self.chance.randrange(self.n)] if self.n else [1, 1, 1]
        if kind == 1:
            return [1, self.number(), self.chance.randint(1, self.size)]
        near = max(0, place - self.chance.choice((3, 10, 80)))
        return [kind] + [self.chance.randrange(near, place) for k in range(OPERANDS[kind])]

    def code(self):
        n = self.chance.choice((0, 1, 1, 1, 1, 2, 2, 2, 2, 3, 3, 3, 3, 5, 5, 12, 12, 13, -1))
        self.n = max(0, min(n, 12))
        self.length = self.chance.choice((0, 3, 6, 6, 10, 10, 20, 20, 40, 80, 81))
        numbers = [number for place in range(self.length) for number in self.line(place)]
        if numbers and self.chance.random() < 0.2:
            numbers[self.chance.randrange(len(numbers))] = self.chance.choice((-1, 0, 1, 2, 7, 80))
        return [0, n, len(numbers)] + numbers

    def call(self):
        i = self.chance.randint(-1, self.length) if self.chance.random() < 0.2 else self.chance.randrange(max(1, self.length))
        d = self.chance.choice((0, 0, 0, 0, 0, 0, 1, 1, 1, 2, 3, 5, 6, -1))
        n, m = self.number() if self.chance.random() < 0.9 else 0, self.chance.randint(-self.size // 9, self.size)
        return self.chance.choices(
            (self.code, lambda: point(*self.row()), lambda: direction(*self.row()), clear,
             lambda: value(i), values, lambda: change(i, d), lambda: changes(d),
             lambda: gradient(i), self.table, lambda: move(d, n, m), lambda: quotient(i, d, n, m),
             lambda: series(i, d, self.chance.choice((1, 2, 3, 4, 5, 6, 7, 8, 8, 8, 9, 0))), lambda: hangs(i), cost),
            (1, 5, 5, 0.7, 4, 3, 5, 4, 5, 5, 4, 10, 12, 3, 2))[0]()

    def table(self):
        longest = self.chance.choice((0, 3, 12, 12, 13))
        odd = -1 if self.chance.random() < 0.1 else 0
        return table(*[self.chance.randint(odd, max(0, self.length - 1)) for k in range(longest)])

    def session(self):
        begin = [self.code() if self.chance.random() < 0.95 else self.call()]
        if self.chance.random() < 0.8:
            begin += [direction(*self.row()), direction(*self.row()), point(*self.row())]
        return begin + [self.call() for k in range(40)]


def heavy_session(seed):
    """Inputs at 0 keep the products light, while their changes grow past what may be told."""
    chance = random.Random(seed)
    lines = [[0, 0], [0, 1]] + [[1, chance.randint(1, 2 ** 48), chance.randint(1, 2 ** 48)] for k in range(3)]
    lines += [[4, 2, 3], [4, 3, 4], [4, 4, 2]]
    grown = [0, 1]
    while len(lines) < 80:
        kind = chance.choice((2, 3, 4, 4, 4, 4, 4, 5, 6))
        operands = [chance.choice(grown[-2:])]
        if kind in (2, 3):
            operands.append(chance.choice(grown[-2:]))
        elif kind in (4, 5):
            operands.append(chance.randint(5, 7))
        grown.append(len(lines))
        lines.append([kind] + operands)
    numbers = [number for line in lines for number in line]
    calls = [[0, 2, len(numbers)] + numbers, point(0, 1, 0, 1)]
    for d in range(2):
        calls.append(direction(*[chance.randint(1, 10 ** 18) for k in range(4)]))
        calls += [change(i, d) for i in range(80)] + [changes(d)]
    calls += [gradient(i) for i in range(0, 80, 3)] + [table(*range(k, k + 12)) for k in (0, 20, 40, 60, 68)]
    calls += [series(i, 1, k) for i in range(0, 80, 7) for k in (2, 8)]
    return calls


def branching_session(seed):
    """Lines that are 1 at the point, and whose series grow past what may be told."""
    chance = random.Random(seed)
    lines, ones = [[0, 0], [1, 1, 1], [2, 0, 1]], [2]
    while len(lines) < 50:
        place, one = len(lines), chance.choice(ones[-3:])
        lines += [[1, chance.randint(1, 10 ** 18), chance.randint(1, 10 ** 18)], [3, one, 1], [4, place, place + 1],
                  [2, place + 2, 1], [chance.choice((4, 5)), chance.choice(ones[-3:] + [1]), place + 3]]
        ones.append(place + 4)
    numbers = [number for line in lines for number in line]
    calls = [[0, 1, len(numbers)] + numbers, point(0, 1), direction(chance.randint(1, 99), chance.randint(1, 99))]
    calls += [series(i, 0, k) for i in ones for k in (3, 8, 5)]
    return calls


class AgainstFractions(unittest.TestCase):
    def assert_answers(self, calls, seed):
        second = Second()
        wanted = [second.answer(call) for call in calls]
        self.assertEqual(ask(*calls), wanted, seed)
        return [(call[0], min(answer[0], 0)) for call, answer in zip(calls, wanted)]

    def test_many_sessions(self):
        seen = {}
        for seed in range(400):
            for pair in self.assert_answers(Maker(seed).session(), seed):
                seen[pair] = True
        # The sessions are worth something only if they come upon what the calls can answer.
        wanted = {0: (0, -1, -2, -3, -7), 1: (0, -2), 2: (0, -2, -7), 3: (0,), 4: (0, -1, -4, -5),
                  5: (0, -4, -5), 6: (0, -1, -4, -5), 7: (0, -1, -4, -5), 8: (0, -1, -4, -5), 9: (0, -2, -4, -5),
                  10: (0, -1, -4), 11: (0, -1, -4, -5), 12: (0, -1, -4, -5), 13: (0, -1), 14: (0,)}
        for kind, numbers in wanted.items():
            for number in numbers:
                self.assertIn((kind, number), seen)

    def test_heavy_changes(self):
        seen = {}
        for seed in range(8):
            for pair in self.assert_answers(heavy_session(seed), seed):
                seen[pair] = True
        for kind in (6, 8, 9, 12):
            for number in (0, -6):
                self.assertIn((kind, number), seen)

    def test_heavy_series(self):
        seen = {}
        for seed in range(12):
            for pair in self.assert_answers(branching_session(seed), seed):
                seen[pair] = True
        for number in (0, -6):
            self.assertIn((12, number), seen)


if __name__ == "__main__":
    unittest.main()
