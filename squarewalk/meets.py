"""Whether a walk comes to a place twice: an answer, and whether an answer is so of a walk."""

from squarewalk.walks import check_walk, counted_places, is_closed, is_number, is_pair


class Answer:
    pass


class Simple(Answer):
    def __init__(self, places):
        self.places = list(places)

    def shows(self, walk):
        come_to = sorted(counted_places(walk))
        if self.places != come_to or not rises(come_to):
            return False
        # True and False equal 1 and 0, and yet they are no numbers.
        return all([is_pair(place) for place in self.places])


class Twice(Answer):
    def __init__(self, first, second):
        self.first = first
        self.second = second

    def shows(self, walk):
        check_walk(walk)
        if not is_number(self.first) or not is_number(self.second):
            return False
        if self.first < 0 or self.second <= self.first or self.second > len(walk):
            return False
        if self.first == 0 and self.second == len(walk):
            return False
        # It is at one place at both moments just if the steps between them come back to where they begin.
        return is_closed(walk[self.first:self.second])


def rises(listed):
    return all([one < following for one, following in zip(listed, listed[1:])])


def meets(walk):
    moments = {}
    for moment, place in enumerate(counted_places(walk)):
        if place in moments:
            return Twice(moments[place], moment)
        moments[place] = moment
    return Simple(sorted(moments))
