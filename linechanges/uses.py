"""What the code alone tells: what a line is made of, and what a direction costs."""

from linechanges.lines import CONSTANT, INPUT

# By a line's kind; inputs and constants are no operations.
COSTS = (0, 0, 1, 1, 3, 3, 1)


def is_operation(line):
    return line[0] != INPUT and line[0] != CONSTANT


def lines_behind(lines, i):
    """Line i and the lines that it's made of, in however many steps, increasing."""
    needed = [False] * (i + 1)
    needed[i] = True
    for place in range(i, -1, -1):
        if needed[place] and is_operation(lines[place]):
            for used in lines[place][1:]:
                needed[used] = True
    return [place for place in range(i + 1) if needed[place]]


def inputs_behind(lines, i):
    """The inputs that line i hangs on, increasing."""
    behind = [lines[place] for place in lines_behind(lines, i)]
    return sorted(set([line[1] for line in behind if line[0] == INPUT]))


def how_many_operations(lines):
    return len([line for line in lines if is_operation(line)])


def cost_of_direction(lines):
    return sum([COSTS[line[0]] for line in lines])
