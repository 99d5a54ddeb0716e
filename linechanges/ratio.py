"""Exact fractions: pairs (numerator, denominator) in lowest terms, the denominator 1 or more."""

ZERO = (0, 1)
ONE = (1, 1)


def common_divisor(a, b):
    """The greatest whole number that divides both; with a 0, the other one without its sign."""
    a = abs(a)
    b = abs(b)
    while b > 0:
        rest = a % b
        a = b
        b = rest
    return a


def in_lowest_terms(upper, lower):
    """The fraction upper over lower, lower being 1 or more."""
    shared = common_divisor(upper, lower)
    return (upper // shared, lower // shared)


def opposite(x):
    return (-x[0], x[1])


def total(x, y):
    # Both are in lowest terms, so only what the denominators share can be left to cancel:
    # far smaller numbers are divided than if the whole result were brought to lowest terms.
    shared = common_divisor(x[1], y[1])
    own = x[1] // shared
    upper = x[0] * (y[1] // shared) + y[0] * own
    left = common_divisor(upper, shared)
    return (upper // left, own * (y[1] // left))


def difference(x, y):
    return total(x, opposite(y))


def product(x, y):
    # Both are in lowest terms, so only one's numerator and the other's denominator can cancel.
    first = common_divisor(x[0], y[1])
    second = common_divisor(y[0], x[1])
    return ((x[0] // first) * (y[0] // second), (x[1] // second) * (y[1] // first))


def sum_of_products(pairs):
    there = [pair for pair in pairs if ZERO not in pair]
    # In a sum of one or two mostly a light fraction meets a heavy one, so that lowest terms at every step cost
    # little; in a longer one every step would cost as much as lowest terms once, at the end.
    if len(there) < 3:
        return sum_by_steps(there)
    return sum_at_once(there)


def sum_by_steps(pairs):
    result = ZERO
    for x, y in pairs:
        result = total(result, product(x, y))
    return result


def sum_at_once(pairs):
    upper = 0
    lower = 1
    for x, y in pairs:
        other = x[1] * y[1]
        shared = common_divisor(lower, other)
        upper = upper * (other // shared) + x[0] * y[0] * (lower // shared)
        lower = lower * (other // shared)
    return in_lowest_terms(upper, lower)


def inverse(x):
    """1 over x, x not being 0; the sign stays above."""
    if x[0] < 0:
        return (-x[1], -x[0])
    return (x[1], x[0])


def quotient(x, y):
    """x over y, y not being 0."""
    return product(x, inverse(y))


def weight(x):
    return abs(x[0]).bit_length() + x[1].bit_length()


def read_fractions(numbers, how_many):
    """The fractions that the list tells, two numbers each, or None where it isn't of that form."""
    if len(numbers) != 2 * how_many:
        return None
    fractions = []
    for place in range(0, len(numbers), 2):
        if numbers[place + 1] < 1:
            return None
        fractions.append(in_lowest_terms(numbers[place], numbers[place + 1]))
    return fractions
