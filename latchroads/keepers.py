"""Keepers of roads, that know what was done and can take it back."""

from latchroads.checks import check_few_walkers, check_setting
from latchroads.errors import InvalidRoad, NoLatch, NothingToRedo, NothingToUndo, TooMany
from latchroads.kinds import check_kind
from latchroads.logs import CUT, JOIN, MOST_DEEDS, MOST_LATCHES, SEND, SET, is_log_road, road_behind
from latchroads.trails import check_index
from latchroads.walks import through_road


class Keeper:
    """A road that is kept, with the log of the deeds that are done to it."""

    def __init__(self, kind, road):
        check_kind(kind)
        if not is_log_road(kind, road):
            raise InvalidRoad("this is no road of the kind that can be kept")
        self._kind = kind
        self._first = road
        # Pairs of a deed and of the road behind it. Tuples are held by attempt as they are.
        self._done = ()
        self._undone = ()

    @property
    def log(self):
        """The log: the kind, the first road and the deeds that are not taken back."""
        return self._kind, self._first, tuple([deed for deed, _ in self._done])

    @property
    def road(self):
        """The road behind the log."""
        if not self._done:
            return self._first
        _, road = self._done[-1]
        return road

    def _do(self, deed):
        """Does a deed that can be done."""
        if len(self._done) == MOST_DEEDS:
            raise TooMany(MOST_DEEDS)
        self._done = self._done + ((deed, road_behind(self._kind, self.road, deed)),)
        self._undone = ()

    def send(self, train):
        """Sends a train, and returns the train that comes out."""
        check_few_walkers(self._kind, train)
        _, out = through_road(self._kind, train, self.road)
        self._do((SEND, train))
        return out

    def put(self, index, setting):
        """Sets a latch, and returns the setting in which it was."""
        check_index(index, len(self.road))
        check_setting(self._kind, setting)
        before = self.road[index]
        self._do((SET, index, setting))
        return before

    def join(self, setting):
        """Joins a latch to the end of the road, and returns its index."""
        check_setting(self._kind, setting)
        index = len(self.road)
        if index == MOST_LATCHES:
            raise TooMany(MOST_LATCHES)
        self._do((JOIN, setting))
        return index

    def cut(self):
        """Takes the last latch away, and returns its setting."""
        road = self.road
        if not road:
            raise NoLatch("there is no latch to take away")
        self._do((CUT,))
        return road[-1]

    def undo(self):
        """Takes back the last deed that is not taken back yet."""
        if not self._done:
            raise NothingToUndo("there is no deed to take back")
        self._undone = self._undone + self._done[-1:]
        self._done = self._done[:-1]

    def redo(self):
        """Does again the last deed that was taken back and not done again yet."""
        if not self._undone:
            raise NothingToRedo("there is no deed to do again")
        self._done = self._done + self._undone[-1:]
        self._undone = self._undone[:-1]

    def attempt(self, action):
        """Calls a function with the keeper; if it ends with an error, all is as it was before."""
        done = self._done
        undone = self._undone
        ended = None
        try:
            told = action(self)
            ended = True
            return told
        finally:
            if ended is None:
                self._done, self._undone = done, undone

    def __eq__(self, other):
        return isinstance(other, Keeper) and self.log == other.log

    def __len__(self):
        return len(self._done)
