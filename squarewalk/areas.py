"""What closed walks go around: squares, how often, and areas."""

from squarewalk.errors import BadNumber, NotClosed
from squarewalk.walks import backwards, check_closed, end, is_pair, places


def check_square(square):
    if not is_pair(square):
        raise BadNumber("a square is told by a pair of whole numbers")


# For each step north or south: the row of squares that it goes along, by their second number; its own
# first number; and 1 for north, -1 for south.
def upright_steps(walk):
    told = []
    for place, step in zip(places(walk), walk):
        if step == "n":
            told.append((place[1], place[0], 1))
        if step == "s":
            told.append((place[1] - 1, place[0], -1))
    return told


def around(walk, square):
    check_closed(walk)
    check_square(square)
    return sum([way for row, x, way in upright_steps(walk) if row == square[1] and x > square[0]])


def area(walk):
    check_closed(walk)
    # In each row a closed walk steps north as often as south. So what each step counts for, the squares of its
    # row to the west of it, may be counted from 0 on: those beyond are the same for all and come to nothing.
    return sum([x * way for row, x, way in upright_steps(walk)])


def between(one, other):
    if end(one) != end(other):
        raise NotClosed("the two walks have unlike ends")
    return area(one + backwards(other))


def squares(walk):
    check_closed(walk)
    told = []
    # The steps to the east of a square, in its row, are all but those to the west of it, and all together they
    # come to 0. So going east, each step that is passed is taken off, and behind a row's last one 0 is left:
    # where it isn't 0, the following step lies in the same row.
    steps = sorted(upright_steps(walk))
    times = 0
    for passed, following in zip(steps, steps[1:]):
        times = times - passed[2]
        if times != 0:
            told.extend([((x, passed[0]), times) for x in range(passed[1], following[1])])
    return sorted(told)
