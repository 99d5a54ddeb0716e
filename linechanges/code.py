"""The calls on one object, told as one list of whole numbers, and what they answer."""

from linechanges.holder import Holder

CODE = 0
POINT = 1
DIRECTION = 2
CLEAR = 3
VALUE = 4
VALUES = 5
CHANGE = 6
CHANGES = 7
GRADIENT = 8
TABLE = 9
MOVE = 10
QUOTIENT = 11
SERIES = 12
HANGS = 13

# By a call's number: how many whole numbers it has, and how many rows behind them.
SHAPES = ((1, 1), (0, 1), (0, 1), (0, 0), (1, 0), (0, 0), (2, 0), (1, 0),
          (1, 0), (0, 1), (3, 0), (4, 0), (3, 0), (1, 0), (0, 0))


def read_call(calls, place):
    """What the call at that place is given, its numbers and then its row, and the place behind the call."""
    shape = SHAPES[calls[place]]
    end = place + 1 + shape[0]
    given = calls[place + 1:end]
    if shape[1] == 1:
        start = end + 1
        end = start + calls[end]
        given.append(calls[start:end])
    return (given, end)


def answer(holder, number, given):
    if number == CODE:
        return holder.take_code(given[0], given[1])
    if number == POINT:
        return holder.take_point(given[0])
    if number == DIRECTION:
        return holder.take_direction(given[0])
    if number == CLEAR:
        return holder.drop_directions()
    if number == VALUE:
        return holder.tell_value(given[0])
    if number == VALUES:
        return holder.tell_values()
    if number == CHANGE:
        return holder.tell_change(given[0], given[1])
    if number == CHANGES:
        return holder.tell_changes(given[0])
    if number == GRADIENT:
        return holder.tell_gradient(given[0])
    if number == TABLE:
        return holder.tell_table(given[0])
    if number == MOVE:
        return holder.move(given[0], given[1], given[2])
    if number == QUOTIENT:
        return holder.tell_quotient(given[0], given[1], given[2], given[3])
    if number == SERIES:
        return holder.tell_series(given[0], given[1], given[2])
    if number == HANGS:
        return holder.tell_hangs(given[0])
    # Only cost is left: read_call has no shape for a number beyond it.
    return holder.tell_cost()


def answers(calls):
    """For each call, in order: how many numbers are answered, then these."""
    holder = Holder()
    every = []
    place = 0
    while place < len(calls):
        call = read_call(calls, place)
        numbers = answer(holder, calls[place], call[0])
        every.append(len(numbers))
        every.extend(numbers)
        place = call[1]
    return every
