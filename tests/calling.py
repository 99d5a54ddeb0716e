"""For the tests: calls written by name, and the answers call by call."""

from linechanges.code import answers

LARGEST = 10 ** 18

INPUT, CONSTANT, SUM, DIFFERENCE, PRODUCT, QUOTIENT, OPPOSITE = range(7)


def code(n, *lines):
    """The lines may be lists, one a line; they are laid one behind the other."""
    numbers = [number for line in lines for number in line]
    return [0, n, len(numbers)] + numbers


def point(*numbers):
    return [1, len(numbers)] + list(numbers)


def direction(*numbers):
    return [2, len(numbers)] + list(numbers)


def clear():
    return [3]


def value(i):
    return [4, i]


def values():
    return [5]


def change(i, d):
    return [6, i, d]


def changes(d):
    return [7, d]


def gradient(i):
    return [8, i]


def table(*lines):
    return [9, len(lines)] + list(lines)


def move(d, n, m):
    return [10, d, n, m]


def quotient(i, d, n, m):
    return [11, i, d, n, m]


def series(i, d, k):
    return [12, i, d, k]


def hangs(i):
    return [13, i]


def cost():
    return [14]


def ask(*calls):
    """What each call answers, as a list of lists."""
    whole = answers([number for call in calls for number in call])
    split = []
    place = 0
    while place < len(whole):
        end = place + 1 + whole[place]
        split.append(whole[place + 1:end])
        place = end
    assert place == len(whole) and len(split) == len(calls), whole
    return split


def last(*calls):
    return ask(*calls)[-1]


def power_of_two_lines(exponent, start=0):
    """Lines whose last is 2 to that exponent, the first standing at line number start; and the last's number."""
    step = min(exponent, 59)
    lines = [[CONSTANT, 2 ** step, 1]]
    current = start
    left = exponent - step
    while left > 0:
        step = min(left, 59)
        lines.append([CONSTANT, 2 ** step, 1])
        lines.append([PRODUCT, current, start + len(lines) - 1])
        current = start + len(lines) - 1
        left -= step
    return lines, current


def climbing_lines(steps, rest, begin=([INPUT, 0],)):
    """Lines that begin as told; their last, then it times 2^198 so many times, then that times 2^rest.

    Where the last line of the beginning is 0 all products are 0, and their changes aren't if its change isn't.
    """
    lines = list(begin)
    current = len(lines) - 1
    large, top = power_of_two_lines(198, len(lines))
    lines += large
    lines.append([CONSTANT, 2 ** rest, 1])
    small = len(lines) - 1
    for factor in [top] * steps + [small]:
        lines.append([PRODUCT, current, factor])
        current = len(lines) - 1
    return lines
