"""The levels of a house: the turnings that are kept for their places, with the steps that make them."""

from turnkin.steps import only_needed
from turnkin.turnings import back, done_as_one, staying


class Kept:
    """A turning that is kept and its back, each with the place of the step that makes it."""

    def __init__(self, turning, step, undone_step):
        self.turning = turning
        self.step = step
        self.undone = back(turning)
        self.undone_step = undone_step


class Levels:
    """A row for each level: its places, each with what is kept for it.

    What is kept once is never exchanged, so there are at most 28 kept turnings beside staying,
    made by at most 9 steps each: never more than a few hundred steps in all.
    """

    def __init__(self, size):
        self._steps = [("stay",)]
        stay = Kept(staying(size), 0, 0)
        self.rows = [{level: stay} for level in range(size)]
        # All that is kept beside staying, as it came.
        self._moving = []

    def walk(self, turning):
        """The level at which the turning falls, or None; the kept ones that it goes along up to
        there, without staying; and what is left of it when their backs are done behind it.
        """
        rest = turning
        path = []
        for level, row in enumerate(self.rows):
            place = rest[level]
            if place not in row:
                return level, path, rest
            if place != level:
                path.append(row[place])
                rest = done_as_one(rest, row[place].undone)
        return None, path, rest

    def put(self, turning, place):
        """Take in the turning, which stands at this place of the few, and all that comes of it."""
        paired = len(self._moving)
        self._take(turning, ("few", place))
        # When each two of the kept ones, done as one, fall at no level, nothing falls that comes
        # of them: so it is enough to go through the pairs.
        while paired < len(self._moving):
            one = self._moving[paired]
            paired += 1
            others = self._moving[:paired]
            for other in others:
                self._take_both(one, other)
                self._take_both(other, one)

    def steps_along(self, path):
        """Steps that make the turning that goes along these kept ones and leaves nothing."""
        if not path:
            return [("stay",)]
        steps = list(self._steps)
        # What a walk comes to last is what is done first.
        last = path[-1].step
        for kept in reversed(path[:-1]):
            steps.append(("behind", last, kept.step))
            last = len(steps) - 1
        return only_needed(steps, last)

    def _take_both(self, one, other):
        """Take in two kept ones, done one behind the other."""
        self._take(done_as_one(one.turning, other.turning), ("behind", one.step, other.step))

    def _take(self, turning, step):
        """Keep what is left of the turning, which the step makes, if it falls."""
        level, path, rest = self.walk(turning)
        if level is None:
            return
        last = self._add_step(step)
        for passed in path:
            last = self._add_step(("behind", last, passed.undone_step))
        kept = Kept(rest, last, self._add_step(("back", last)))
        self.rows[level][rest[level]] = kept
        self._moving.append(kept)

    def _add_step(self, step):
        """Add the step, and tell its place."""
        self._steps.append(step)
        return len(self._steps) - 1
