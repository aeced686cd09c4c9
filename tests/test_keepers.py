"""Keepers of roads [35], [82]."""

import random
import unittest

from latchroads import errors
from latchroads.keepers import Keeper
from latchroads.logs import is_log, log_roads
from tests.helper import (BIG, SPOILT, U, Y, Z, check_wrong, drawn_deed, drawn_kind, drawn_road, drawn_train, raised,
                          slow_log_roads, slow_passed, told, wrong)

TURN = (((1, 0), (0, 0)),)


class Stop(Exception):
    """An error that is none of the package."""


class SlowKeeper:
    """Keeps the deeds of all its pasts: those done, and those that can be done again."""

    def __init__(self, kind, road):
        self.kind = kind
        self.first = road
        self.pasts = [()]
        self.again = []

    def log(self):
        return self.kind, self.first, self.pasts[-1]

    def road(self):
        return slow_log_roads(self.log())[-1]

    def do(self, deed):
        """What the keeper tells of a deed, or the error that it raises, and nothing done."""
        road, full = self.road(), len(self.pasts) == 31
        word = deed[0]
        if word == "set" and not 0 <= deed[1] < len(road):
            return "InvalidIndex"
        if word == "join" and len(road) == 12:
            return "TooMany(12)"
        if word == "cut" and not road:
            return "NoLatch"
        if full:
            return "TooMany(30)"
        self.pasts.append(self.pasts[-1] + (deed,))
        self.again = []
        if word == "send":
            return slow_passed(self.kind, deed[1], road)[1]
        return {"set": lambda: road[deed[1]], "join": lambda: len(road), "cut": lambda: road[-1]}[word]()

    def undo(self):
        if len(self.pasts) == 1:
            return "NothingToUndo"
        self.again.append(self.pasts.pop())
        return None

    def redo(self):
        if not self.again:
            return "NothingToRedo"
        self.pasts.append(self.again.pop())
        return None

    def copy(self):
        other = SlowKeeper(self.kind, self.first)
        other.pasts, other.again = list(self.pasts), list(self.again)
        return other


def outcome(action):
    """What is returned, or how an error is called."""
    try:
        return action()
    except errors.LatchError:
        return raised(action)


def done(keeper, deed):
    """Does a deed to a keeper."""
    word, *more = deed
    method = {"send": keeper.send, "set": keeper.put, "join": keeper.join, "cut": keeper.cut}[word]
    return outcome(lambda: method(*more))


def any_deed(rng, slow):
    """A drawn deed that can be done, or not."""
    deed = drawn_deed(rng, slow.kind, len(slow.road()))
    if rng.random() < 0.1:
        deed = rng.choice([("cut",), ("set", rng.randint(-1, 13), 0), ("join", 0), ("join", 0)])
    return deed


class KeepersTest(unittest.TestCase):

    def check_same(self, keeper, slow):
        """The keeper stands as the slow one does, with all that can be taken back and done again."""
        self.assertEqual(keeper.log, slow.log())
        self.assertEqual(keeper.road, slow.road())
        self.assertEqual(len(keeper), len(slow.log()[2]))
        self.assertIs(is_log(keeper.log), True)

    def check_pasts(self, keeper, slow):
        """All that can be taken back, and done again, is so, and back again; at last the keeper stands as before."""
        slow = slow.copy()
        again = len(slow.again)
        for _ in range(again):
            self.assertEqual(outcome(keeper.redo), slow.redo())
            self.check_same(keeper, slow)
        self.assertEqual(outcome(keeper.redo), "NothingToRedo")
        for _ in range(again):
            keeper.undo()
            slow.undo()
        back = len(slow.pasts) - 1
        for _ in range(back):
            self.assertEqual(outcome(keeper.undo), slow.undo())
            self.check_same(keeper, slow)
        self.assertEqual(outcome(keeper.undo), "NothingToUndo")
        for _ in range(back):
            keeper.redo()
            slow.redo()
        self.check_same(keeper, slow)

    def test_example(self):
        told(self, """
            >>> a = Keeper(U, (1, 0))
            >>> [a.send((0, 0)), a.put(0, 0), a.join(1), a.road, a.undo(), a.cut(), a.road, len(a), a.undo(), a.redo(), a.log[2][-1]]
            [(1, 1), 1, 2, (0, 1, 1), None, 1, (0,), 3, None, None, ('cut',)]
            """, dict(U=U, Keeper=Keeper))

    def test_random_calls(self):
        rng = random.Random(82)
        seen = {}
        for _ in range(60):
            kind = drawn_kind(rng, rng.randint(1, 4), rng.randint(1, 4))
            road = drawn_road(rng, kind, rng.choice((1, 5, 12)))
            keeper, slow = Keeper(kind, road), SlowKeeper(kind, road)
            bold = rng.choice((0.1, 0.3))
            for _ in range(rng.choice((10, 60))):
                draw = rng.random()
                if draw < bold:
                    for _ in range(rng.randint(1, 4)):
                        told_by = outcome(keeper.undo)
                        self.assertEqual(told_by, slow.undo())
                elif draw < 1.5 * bold:
                    for _ in range(rng.randint(1, 3)):
                        told_by = outcome(keeper.redo)
                        self.assertEqual(told_by, slow.redo())
                else:
                    deed = any_deed(rng, slow)
                    told_by = done(keeper, deed)
                    self.assertEqual(told_by, slow.do(deed), deed)
                if isinstance(told_by, str):
                    seen[told_by] = seen.get(told_by, 0) + 1
                self.check_same(keeper, slow)
            self.check_pasts(keeper, slow)
        for name in ("InvalidIndex", "TooMany(12)", "TooMany(30)", "NoLatch", "NothingToUndo", "NothingToRedo"):
            self.assertGreater(seen.get(name, 0), 2, seen)

    def test_logs_are_those_of_the_deeds(self):
        keeper = Keeper(*Y[:2])
        for deed in Y[2]:
            done(keeper, deed)
        self.assertEqual([keeper.log, keeper.road, len(keeper)], [Y, log_roads(Y)[-1], 4])
        self.assertEqual([type(keeper.log), type(keeper.log[2])], [tuple, tuple])
        self.assertEqual([Keeper(U, ()).log, Keeper(U, (1, 0)).log], [(U, (), ()), (U, (1, 0), ())])
        self.assertEqual([Keeper(U, ()).road, len(Keeper(U, ()))], [(), 0])

    def test_a_new_deed_ends_what_can_be_done_again(self):
        keeper = Keeper(U, (0, 0))
        keeper.join(1)
        keeper.put(0, 1)
        keeper.undo()
        keeper.undo()
        # What is refused is no new deed.
        for call in (lambda: keeper.put(2, 0), lambda: keeper.join(2), lambda: keeper.send((2,)), keeper.undo):
            self.assertNotIn("no error", raised(call))
        keeper.redo()
        self.assertEqual(keeper.road, (0, 0, 1))
        # A deed that changes no latch is a new one.
        keeper.put(0, 0)
        self.assertEqual([raised(keeper.redo), len(keeper)], ["NothingToRedo", 2])
        keeper.undo()
        keeper.send(())
        self.assertEqual([raised(keeper.redo), keeper.log[2]], ["NothingToRedo", (("join", 1), ("send", ()))])

    def test_undo_and_redo_return_none(self):
        keeper = Keeper(U, (0,))
        keeper.cut()
        self.assertEqual([keeper.undo(), keeper.redo(), keeper.undo()], [None] * 3)
        self.assertEqual([raised(keeper.undo), keeper.road, raised(keeper.undo)],
                         ["NothingToUndo", (0,), "NothingToUndo"])

    def test_limit_of_deeds(self):
        keeper = Keeper(TURN, (0,))
        for many in range(30):
            self.assertEqual(keeper.send((0,)), (0,))
        for _ in range(2):
            for call in (lambda: keeper.send((0,)), lambda: keeper.put(0, 0), lambda: keeper.join(0), keeper.cut):
                self.assertEqual(raised(call), "TooMany(30)")
        # It comes at last.
        self.assertEqual([raised(lambda: keeper.send((1,))), raised(lambda: keeper.put(1, 0)),
                          raised(lambda: keeper.put(0, 2)), raised(lambda: keeper.join(2))],
                         ["InvalidTrain", "InvalidIndex", "InvalidSetting", "InvalidSetting"])
        self.assertEqual([len(keeper), keeper.road], [30, (0,)])
        # Those taken back do not count, and with full deeds some can be taken back and done again.
        keeper.undo()
        keeper.redo()
        self.assertEqual(len(keeper), 30)
        keeper.undo()
        self.assertEqual([keeper.cut(), len(keeper), raised(lambda: keeper.send(()))], [1, 30, "TooMany(30)"])
        self.assertEqual(raised(keeper.cut), "NoLatch")
        keeper.undo()
        self.assertEqual(keeper.put(0, 1), 1)

    def test_limit_of_latches(self):
        keeper = Keeper(U, (0,) * 11)
        self.assertEqual([keeper.join(1), raised(lambda: keeper.join(1)), raised(lambda: keeper.join(2))],
                         [11, "TooMany(12)", "InvalidSetting"])
        self.assertEqual([keeper.cut(), keeper.join(0), keeper.road], [1, 11, (0,) * 12])
        for _ in range(27):
            keeper.send((1,))
        # Both limits are passed: that of the deeds comes at last.
        self.assertEqual([len(keeper), raised(lambda: keeper.join(0)), raised(lambda: keeper.send(()))],
                         [30, "TooMany(12)", "TooMany(30)"])
        self.assertEqual([raised(lambda: Keeper(U, (0,) * 13)), Keeper(U, (0,) * 12).road], ["InvalidRoad", (0,) * 12])

    def test_no_latches(self):
        keeper = Keeper(U, ())
        self.assertEqual([raised(keeper.cut), raised(lambda: keeper.put(0, 0)), keeper.send((0, 1)), keeper.join(1),
                          keeper.cut(), raised(keeper.cut), len(keeper)],
                         ["NoLatch", "InvalidIndex", (0, 1), 0, 1, "NoLatch", 3])

    def test_attempts_that_end_well(self):
        keeper = Keeper(U, (1, 0))
        self.assertEqual(keeper.attempt(lambda held: held.join(1)), 2)
        self.assertIsNone(keeper.attempt(lambda held: None))
        self.assertIs(keeper.attempt(lambda held: held), keeper)
        self.assertEqual(keeper.attempt(lambda held: [held.undo(), held.send((0,)), len(held)]), [None, (1,), 1])
        self.assertEqual([keeper.log[2], raised(keeper.redo)], [(("send", (0,)),), "NothingToRedo"])
        # What an attempt did is taken back deed by deed.
        keeper.attempt(lambda held: (held.join(0), held.join(1)))
        keeper.undo()
        self.assertEqual(keeper.road, (0, 1, 0))

    def test_attempts_that_end_with_errors(self):
        for error in (Stop, errors.NoLatch, ValueError, KeyError, ZeroDivisionError, KeyboardInterrupt, SystemExit):
            keeper, slow = Keeper(U, (1, 0)), SlowKeeper(U, (1, 0))
            for deed in (("join", 1), ("set", 0, 0), ("send", (0, 1)), ("cut",)):
                self.assertEqual(done(keeper, deed), slow.do(deed))
            keeper.undo()
            slow.undo()
            for actions in ((), ("undo",), ("redo",), ("undo", "undo", "redo"), ("cut",), ("undo", "cut", "undo"),
                            ("undo", "undo", "undo"), ("redo", "undo", "cut", "cut", "cut")):
                raising = error("words")

                def action(held):
                    for name in actions:
                        getattr(held, name)()
                    raise raising

                with self.assertRaises(error) as caught:
                    keeper.attempt(action)
                self.assertIs(caught.exception, raising)
                self.check_same(keeper, slow)
                self.check_pasts(keeper, slow)

    def test_attempts_with_refused_deeds(self):
        keeper = Keeper(U, (1, 0))
        keeper.join(1)
        keeper.undo()
        self.assertEqual(raised(lambda: keeper.attempt(lambda held: [held.cut(), held.cut(), held.cut()])), "NoLatch")
        self.assertEqual([keeper.road, len(keeper)], [(1, 0), 0])
        # What is refused within may be caught there; then all that was done stays.
        self.assertEqual(keeper.attempt(lambda held: [held.cut(), raised(lambda: held.put(1, 0)), held.cut()]),
                         [0, "InvalidIndex", 1])
        self.assertEqual(keeper.road, ())
        other = Keeper(U, (1, 0))
        other.join(1)
        other.undo()
        self.assertEqual(raised(lambda: other.attempt(lambda held: held.put(2, 0))), "InvalidIndex")
        other.redo()
        self.assertEqual(other.road, (1, 0, 1))

    def test_attempts_within_attempts(self):
        rng = random.Random(83)
        ended = {True: 0, False: 0}
        for _ in range(150):
            kind = drawn_kind(rng, rng.randint(1, 3), rng.randint(1, 3))
            road = drawn_road(rng, kind, 6)
            keeper, slow = Keeper(kind, road), SlowKeeper(kind, road)

            def run(held, deep):
                """Random calls to the keeper and the slow one; ends with an error, or returns how deep it was."""
                for _ in range(rng.randint(0, 4)):
                    draw = rng.random()
                    if draw < 0.2:
                        self.assertEqual(outcome(held.undo), slow.undo())
                    elif draw < 0.3:
                        self.assertEqual(outcome(held.redo), slow.redo())
                    elif draw < 0.6 and deep < 4:
                        attempt(held, deep + 1)
                    else:
                        deed = any_deed(rng, slow)
                        self.assertEqual(done(held, deed), slow.do(deed))
                if rng.random() < 0.4:
                    raise rng.choice((Stop, errors.LatchError, errors.NothingToUndo))("words")
                return deep

            def attempt(held, deep):
                before = slow.copy()
                try:
                    self.assertEqual(held.attempt(lambda same: run(same, deep)), deep)
                    ended[True] += 1
                except (Stop, errors.LatchError):
                    slow.pasts, slow.again = before.pasts, before.again
                    ended[False] += 1
                    if deep > 0 and rng.random() < 0.3:
                        raise
                self.check_same(held, slow)

            for _ in range(6):
                attempt(keeper, 0)
                self.check_same(keeper, slow)
            self.check_pasts(keeper, slow)
        self.assertGreater(min(ended.values()), 200, ended)

    def test_equality(self):
        one, two = Keeper(U, (1, 0)), Keeper(U, (1, 0))
        self.assertIs(one == two, True)
        self.assertIs(one != two, False)
        one.put(0, 1)
        self.assertIs(one == two, False)
        self.assertIs(one != two, True)
        # The road is the same, and the log is not; what can be done again does not count.
        self.assertEqual(one.road, two.road)
        one.undo()
        self.assertIs(one == two, True)
        two.put(0, 1)
        one.redo()
        self.assertIs(one == two, True)
        for other in (Keeper(U, (1,)), Keeper(Z, (1, 0)), Keeper(U, ())):
            self.assertIs(Keeper(U, (1, 0)) == other, False)
        keeper = Keeper(U, (1, 0))
        for other in SPOILT + [keeper.log, keeper.road, U, Y, (), 0, object()]:
            self.assertIs(keeper == other, False)
            self.assertIs(other == keeper, False)
            self.assertIs(keeper != other, True)

    def test_keepers_are_apart(self):
        kind, road = U, (1, 0)
        one, two = Keeper(kind, road), Keeper(kind, road)
        one.cut()
        self.assertEqual([one.road, two.road, road, len(two)], [(1,), (1, 0), (1, 0), 0])

    def test_iterating_raises(self):
        keeper = Keeper(U, (1, 0))
        keeper.cut()
        for action in (lambda: iter(keeper), lambda: list(keeper), lambda: [at for at in keeper],
                       lambda: tuple(keeper), lambda: sorted(keeper), lambda: 0 in keeper, lambda: max(keeper)):
            self.assertRaises(TypeError, action)

    def test_methods_stand_in_the_class(self):
        for name in ("send", "put", "join", "cut", "undo", "redo", "attempt", "log", "road", "__eq__", "__len__"):
            self.assertIn(name, vars(Keeper))
        for name in ("log", "road"):
            with self.assertRaises(AttributeError):
                setattr(Keeper(U, ()), name, ())

    def test_keepers_are_any_values(self):
        from latchroads.kinds import is_kind, is_road, is_train
        from latchroads.undoings import is_undoing
        keeper = Keeper(U, (1, 0))
        for value in (keeper, (keeper,), (keeper, keeper), [keeper]):
            self.assertEqual([is_kind(value), is_road(U, value), is_train(U, value), is_log(value),
                              is_undoing(U, (0,), value)], [False] * 5)
            self.assertEqual(raised(lambda: Keeper(value, ())), "InvalidKind")
            self.assertEqual(raised(lambda: keeper.put(value, 0)), "InvalidIndex")

    def test_six_of_each(self):
        rng = random.Random(84)
        kind = drawn_kind(rng, 6, 6)
        keeper, slow = Keeper(kind, (5,) * 12), SlowKeeper(kind, (5,) * 12)
        for _ in range(30):
            train = drawn_train(rng, kind, 6)
            self.assertEqual(keeper.send(train), slow.do(("send", train)))
            self.check_same(keeper, slow)

    def test_wrong_arguments(self):
        name, values = wrong("road")
        roads = (name, values + [(0,) * 13, (0, 1) * 30])
        check_wrong(self, Keeper, (U, (1, 0)), [wrong("kind"), roads])
        keeper = Keeper(U, (1, 0))
        keeper.join(1)
        keeper.undo()
        check_wrong(self, keeper.send, ((0, 1),), [wrong("few walkers")])
        check_wrong(self, keeper.put, (0, 1), [wrong("index", most=2), wrong("setting")])
        check_wrong(self, keeper.join, (1,), [wrong("setting")])
        # Nothing was changed by all that.
        self.assertEqual([keeper.log, keeper.redo(), keeper.road], [(U, (1, 0), ()), None, (1, 0, 1)])
        self.assertEqual(raised(lambda: keeper.put(BIG, BIG)), "InvalidIndex")
