"""Line code: the kinds of its lines, and how a list of numbers tells them.

A line is kept as the tuple of the numbers that tell it, its kind first.
"""

INPUT = 0
CONSTANT = 1
SUM = 2
DIFFERENCE = 3
PRODUCT = 4
QUOTIENT = 5
OPPOSITE = 6

NUMBERS_BEHIND_KIND = (1, 2, 2, 2, 2, 2, 1)


def has_form(line):
    """Whether the numbers behind the kind may stand there, whatever the other lines are."""
    if line[0] == CONSTANT:
        return line[2] >= 1
    return min(line[1:]) >= 0


def read_lines(numbers):
    """The lines that stand one behind the other in the list, or None where it isn't such a list."""
    lines = []
    place = 0
    while place < len(numbers):
        kind = numbers[place]
        if kind < INPUT or kind > OPPOSITE:
            return None
        end = place + 1 + NUMBERS_BEHIND_KIND[kind]
        if end > len(numbers):
            return None
        line = tuple(numbers[place:end])
        if not has_form(line):
            return None
        lines.append(line)
        place = end
    return lines


def finds_what_it_uses(line, place, inputs):
    """Whether the line at that place uses only earlier lines, or one of so many inputs."""
    if line[0] == CONSTANT:
        return True
    if line[0] == INPUT:
        return line[1] < inputs
    return max(line[1:]) < place


def all_find_what_they_use(lines, inputs):
    for place, line in enumerate(lines):
        if not finds_what_it_uses(line, place, inputs):
            return False
    return True
