"""The trails of latches, spared walkers, exchanged deeds [36], [81]."""

import random
import unittest

from latchroads.logs import is_log
from latchroads.trails import exchanged_deeds, spared_walkers, trail_of
from tests.helper import (U, Y, check_new_list, check_wrong, drawn_kind, drawn_log, raised, slow_log_roads, told,
                          wrong)


def slow_trails(log):
    """The trails of all latches behind a log: each latch is a list of its own, with its setting and what changed it."""
    kind, road, deeds = log
    latches = [[setting] for setting in road]

    def becomes(latch, setting, place):
        if latch[0] != setting:
            latch[0] = setting
            latch.append(place)

    for at, deed in enumerate(deeds):
        if deed[0] == "send":
            for walker, sort in enumerate(deed[1]):
                for latch in latches:
                    left, sort = kind[sort][latch[0]]
                    becomes(latch, left, (at, walker))
        elif deed[0] == "set":
            becomes(latches[deed[1]], deed[2], (at, None))
        elif deed[0] == "join":
            latches.append([deed[1], (at, None)])
        else:
            del latches[-1]
    return [tuple(latch[1:]) for latch in latches]


def slow_spared(log):
    kind, road, deeds = log
    found = []
    for at, deed in enumerate(deeds):
        for walker in range(len(deed[1])) if deed[0] == "send" else ():
            others = list(deeds)
            others[at] = ("send", tuple(sort for place, sort in enumerate(deed[1]) if place != walker))
            if slow_log_roads((kind, road, others))[-1] == slow_log_roads(log)[-1]:
                found.append((at, walker))
    return found


def slow_exchanged(log):
    kind, road, deeds = log
    found = []
    for at in range(len(deeds) - 1):
        others = list(deeds)
        others[at], others[at + 1] = others[at + 1], others[at]
        other = (kind, road, tuple(others))
        if is_log(other) and slow_log_roads(other)[-1] == slow_log_roads(log)[-1]:
            found.append(at)
    return found


class TrailsTest(unittest.TestCase):

    def test_example(self):
        told(self, """
            >>> [trail_of(Y, 0), trail_of(Y, 2), spared_walkers(Y), exchanged_deeds(Y)]
            [((0, 0), (0, 1), (3, 0)), ((2, None), (3, 0)), [(0, 0), (0, 1)], [0, 1]]
            """, dict(Y=Y, trail_of=trail_of, spared_walkers=spared_walkers, exchanged_deeds=exchanged_deeds))

    def test_beside_slow_reading(self):
        rng = random.Random(81)
        trails, spared, exchanged = set(), set(), set()
        for _ in range(250):
            log = drawn_log(rng, 14)
            slow = slow_trails(log)
            self.assertEqual(len(slow), len(slow_log_roads(log)[-1]))
            for index, trail in enumerate(slow):
                self.assertEqual(trail_of(log, index), trail)
                trails.add(len(trail))
            for index in (len(slow), -1, 12):
                self.assertEqual(raised(lambda: trail_of(log, index)), "InvalidIndex")
            walkers, deeds = spared_walkers(log), exchanged_deeds(log)
            self.assertEqual([walkers, deeds], [slow_spared(log), slow_exchanged(log)])
            spared.add(len(walkers))
            exchanged.add(len(deeds))
        for found in (trails, spared, exchanged):
            self.assertGreater(len(found), 5)

    def test_long_logs(self):
        rng = random.Random(82)
        for _ in range(12):
            log = drawn_log(rng, 30, least=30)
            self.assertEqual(len(log[2]), 30)
            self.assertEqual([trail_of(log, index) for index in range(len(slow_trails(log)))], slow_trails(log))
            self.assertEqual([spared_walkers(log), exchanged_deeds(log)], [slow_spared(log), slow_exchanged(log)])
        six = drawn_kind(rng, 6, 6)
        log = (six, (0, 1, 2, 3, 4, 5) * 2, (("send", (5, 4, 3, 2, 1, 0)), ("set", 11, 3)) * 15)
        self.assertEqual([trail_of(log, index) for index in range(12)], slow_trails(log))
        self.assertEqual([spared_walkers(log), exchanged_deeds(log)], [slow_spared(log), slow_exchanged(log)])

    def test_where_latches_come_from(self):
        # One was there, one came by a join, one was cut and joined again, twice.
        log = (U, (0, 0), (("send", (0,)), ("join", 1), ("cut",), ("join", 1), ("set", 2, 0), ("cut",), ("cut",),
                           ("join", 0), ("set", 1, 1), ("send", (0, 0)), ("join", 0)))
        self.assertEqual([trail_of(log, index) for index in range(3)],
                         [((0, 0), (9, 0), (9, 1)), ((7, None), (8, None), (9, 0)), ((10, None),)])
        self.assertEqual([trail_of(log, index) for index in range(3)], slow_trails(log))

    def test_set_to_the_setting_that_stands(self):
        log = (U, (1, 0), (("set", 0, 1), ("set", 1, 0), ("set", 1, 1), ("set", 1, 1), ("send", (1,)), ("set", 0, 0)))
        self.assertEqual([trail_of(log, 0), trail_of(log, 1)], [((5, None),), ((2, None),)])
        self.assertEqual([spared_walkers(log), exchanged_deeds(log)], [[(4, 0)], [0, 1, 2, 3, 4]])
        self.assertEqual(exchanged_deeds(log), slow_exchanged(log))

    def test_walkers_that_change_nothing_to_the_end(self):
        # What a walker did is undone, or cut, or set anew.
        turn = (((1, 0), (0, 0)),)
        self.assertEqual(spared_walkers((turn, (0,), (("send", (0, 0)), ("set", 0, 0)))), [(0, 0), (0, 1)])
        self.assertEqual(spared_walkers((turn, (0, 0), (("send", (0,)), ("cut",), ("set", 0, 1), ("send", (0,))))),
                         [(0, 0)])
        self.assertEqual(spared_walkers((turn, (), (("send", (0,)), ("join", 1)))), [(0, 0)])
        self.assertEqual(spared_walkers((turn, (0,), (("send", ()),))), [])

    def test_exchanges_that_are_no_logs(self):
        self.assertEqual(exchanged_deeds((U, (), (("join", 0), ("cut",)))), [])
        self.assertEqual(exchanged_deeds((U, (), (("join", 0), ("set", 0, 0)))), [])
        self.assertEqual(exchanged_deeds((U, (0,) * 12, (("cut",), ("join", 0)))), [])
        self.assertEqual(exchanged_deeds((U, (0,) * 11 + (1,), (("cut",), ("join", 1), ("send", ())))), [1])
        self.assertEqual(exchanged_deeds((U, (0, 1), (("cut",), ("join", 1)))), [0])
        self.assertEqual(exchanged_deeds((U, (0, 1), (("cut",), ("join", 0)))), [])
        self.assertEqual(exchanged_deeds((U, (0, 1), (("set", 1, 0), ("cut",)))), [])
        self.assertEqual(exchanged_deeds((U, (0, 1), (("set", 0, 1), ("cut",)))), [0])
        self.assertEqual(exchanged_deeds((U, (0, 1), (("cut",), ("set", 0, 1)))), [0])

    def test_no_deeds_no_latches(self):
        for log in ((U, (), ()), (U, (0, 1), ())):
            self.assertEqual([spared_walkers(log), exchanged_deeds(log)], [[], []])
        self.assertEqual([trail_of((U, (0, 1), ()), index) for index in (0, 1)], [(), ()])
        log = (U, (), (("send", (0,) * 6),) * 30)
        self.assertEqual([len(spared_walkers(log)), exchanged_deeds(log)], [180, list(range(29))])
        self.assertEqual(raised(lambda: trail_of(log, 0)), "InvalidIndex")
        one = ((((0, 0),),), (0,), (("send", (0,)), ("set", 0, 0), ("join", 0)))
        self.assertEqual([trail_of(one, 0), trail_of(one, 1)], [(), ((2, None),)])

    def test_lists_are_new(self):
        check_new_list(self, spared_walkers, Y)
        check_new_list(self, exchanged_deeds, Y)

    def test_wrong_arguments(self):
        check_wrong(self, trail_of, (Y, 0), [wrong("log"), wrong("index", most=3)])
        for function in (spared_walkers, exchanged_deeds):
            check_wrong(self, function, (Y,), [wrong("log")])
