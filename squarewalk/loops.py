"""Loops: their turns, and the places within them."""

from squarewalk.areas import squares
from squarewalk.errors import NotSimple
from squarewalk.meets import Simple, meets
from squarewalk.walks import check_closed, places, turned


def check_loop(walk):
    check_closed(walk)
    if len(walk) < 4 or not isinstance(meets(walk), Simple):
        raise NotSimple("the walk is no loop")


def turns(walk):
    check_loop(walk)
    left = 0
    right = 0
    # The last step stands ahead of the first one.
    for ahead, step in zip(walk[-1] + walk, walk):
        if step == turned(ahead, 1):
            left = left + 1
        if step == turned(ahead, 3):
            right = right + 1
    return (left, right)


def within(walk):
    check_loop(walk)
    own = dict([(place, True) for place in places(walk)])
    # No step of the loop parts the four squares at a place that isn't its own: all four are gone around, or
    # none. So the one that bears the place's numbers tells of all.
    return [square for square, times in squares(walk) if square not in own]
