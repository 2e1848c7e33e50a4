"""The house: all turnings that come of a few ones and their backs."""

from turnkin.checks import check_place, check_size, is_whole
from turnkin.errors import BadFew, BadNumber, BadTurning, NotIn
from turnkin.few import MOST_FEW, check_few
from turnkin.levels import Levels
from turnkin.turnings import back, done_as_one, is_turning, staying
from turnkin.ways import rounds


class House:
    """All turnings of a size that come of a few, to which more are put one by one."""

    def __init__(self, size, few=None):
        check_size(size)
        if few is None:
            few = ()
        check_few(size, few)
        self._size = size
        self._few = []
        self._levels = Levels(size)
        for turning in few:
            self._take(turning)

    def _take(self, turning):
        """Put one that has been checked."""
        self._levels.put(turning, len(self._few))
        self._few.append(turning)

    def _check(self, turning):
        """Refuse what is no turning of the size."""
        if not is_turning(turning, self._size):
            raise BadTurning("this is no turning of the house's size")

    def _path(self, turning):
        """The kept turnings that a turning of the house goes along; any other one is refused."""
        self._check(turning)
        level, path, _ = self._levels.walk(turning)
        if level is not None:
            raise NotIn(level)
        return path

    def put(self, turning):
        """Put one more to the few."""
        self._check(turning)
        if len(self._few) >= MOST_FEW:
            raise BadFew(MOST_FEW)
        self._take(turning)

    def told(self):
        """The few as they were put."""
        return list(self._few)

    def levels(self):
        """The places of each level, rising."""
        return [sorted(row) for row in self._levels.rows]

    def many(self):
        """How many turnings are in the house."""
        many = 1
        for row in self._levels.rows:
            many = many * len(row)
        return many

    def kept(self, level, place):
        """The turning that is kept for the level's place, or None where it hasn't that place."""
        check_place(self._size, level)
        check_place(self._size, place)
        row = self._levels.rows[level]
        return row[place].turning if place in row else None

    def has(self, turning):
        """Whether the turning is in the house."""
        return self.fall(turning) is None

    def fall(self, turning):
        """The level at which the turning falls, or None where it is in the house."""
        self._check(turning)
        return self._levels.walk(turning)[0]

    def shown(self, turning):
        """Steps out of the few of which the last makes the turning."""
        return self._levels.steps_along(self._path(turning))

    def number(self, turning):
        """The turning's number among all of the house, in order."""
        self._path(turning)
        told = 0
        # One of the house that leads the places of all levels so far as the turning does.
        like = staying(self._size)
        for level, row in enumerate(self._levels.rows):
            target = turning[level]
            less = [place for place in row if like[place] < target]
            told = told * len(row) + len(less)
            like = done_as_one(row[like.index(target)].turning, like)
        return told

    def turning_at(self, number):
        """The turning that has the number."""
        many = self.many()
        if not is_whole(number) or not 0 <= number < many:
            raise BadNumber("no turning of the house has such a number")
        left = number
        # One of the house that leads the places of all levels so far as the asked one does.
        like = staying(self._size)
        for row in self._levels.rows:
            many = many // len(row)
            at, left = divmod(left, many)
            target = sorted([like[place] for place in row])[at]
            like = done_as_one(row[like.index(target)].turning, like)
        return like

    def rounds(self):
        """The rounds of the few."""
        return rounds(self._size, self._few)

    def holds(self, other):
        """Whether all turnings of the other house are in this one."""
        return all([self.has(turning) for turning in other.told()])

    def joined(self, other):
        """The house of the few of both, this one's ahead."""
        return House(self._size, self.told() + other.told())

    def renamed(self, turning):
        """The house that has each turning with its places renamed by this one."""
        self._check(turning)
        undone = back(turning)
        few = [done_as_one(done_as_one(undone, one), turning) for one in self._few]
        return House(self._size, few)
