"""Trains, and stretches of them, that are idle [34], [79]."""

import random
import unittest

from latchroads.idles import idle_stretches, is_idle, rests_of
from latchroads.kindtexts import read_kind
from tests.helper import (FEW_1000, FEW_1001, STILL_1000, STILL_1001, U, Z, check_new_list, check_wrong, drawn_kind,
                          drawn_train, one_to_one_kind, raised, slow_alike, slow_coming, slow_left, told, drawn_road,
                          wrong)

# Of this train 999 trains come, and with the train without walkers 1000; each leaves latches as they are or not.
COMING_999 = read_kind("0b1a2d3f4c 0a1f2a3a4a 0d1e2c3c4c 0c1d2c3b4d 0f1f2e3a4b 0f1a2b3a4a"), (5, 5, 5, 3, 1, 4)
# Of the first walker's train few trains come, with it and with the others; of these just so many, and one more.
BEHIND_ONE = [(read_kind("0a1a2b3d4c 0a1d2c3e4c 0b1c2b3e4b 0c1b2a3a4d 0a1e2c3d4e 0f0f0f0f0f"),
               (5, 0, 0, 2, 1, 4, 3), 1000),
              (read_kind("0b1c2b3c4b 0c1d2e3b4e 0a1e2b3d4a 0c1a2c3c4c 0c1c2c3a4b 0f0f0f0f0f"),
               (5, 0, 1, 3, 1, 2, 4), 1001)]
TURN = (((1, 0), (0, 0)),)
LOSE = (((0, 0), (0, 0)), ((0, 1), (1, 1)))


def idle_kind(rng):
    """A drawn kind of which some walkers often undo what others did."""
    kind = one_to_one_kind(rng, rng.randint(1, 3), rng.randint(1, 3))
    draw = rng.random()
    if draw < 0.4:
        # All go on as they are, whatever the setting.
        kind = tuple(tuple((left, sort) for left, _ in row) for sort, row in enumerate(kind))
    elif draw < 0.6:
        kind = kind + (tuple((at, rng.randrange(len(kind) + 1)) for at in range(len(kind[0]))),)
    elif draw < 0.7:
        kind = drawn_kind(rng, 2, 3)
    return kind


def slow_stretches(kind, train):
    return [(begin, end) for begin in range(len(train) + 1) for end in range(begin + 1, len(train) + 1)
            if slow_alike(kind, train[begin:end], ())]


def slow_rests(kind, train):
    """All trains without idle stretches that are left, whichever stretch is taken out first."""
    stretches = slow_stretches(kind, train)
    if not stretches:
        return {train}
    return {rest for begin, end in stretches for rest in slow_rests(kind, train[:begin] + train[end:])}


class IdlesTest(unittest.TestCase):

    def test_example(self):
        told(self, """
            >>> [is_idle(U, (1, 1)), idle_stretches(U, (0, 1, 0)), rests_of(U, (0, 1, 0)), rests_of((((1, 0), (0, 0)),), (0, 0, 0)), rests_of(U, (1,))]
            [True, [(1, 2)], [(0, 0)], [(0,)], [()]]
            """, dict(U=U, is_idle=is_idle, idle_stretches=idle_stretches, rests_of=rests_of))

    def test_beside_slow_reading(self):
        rng = random.Random(79)
        found = {True: 0, False: 0}
        counts = set()
        for _ in range(400):
            kind = idle_kind(rng)
            train = drawn_train(rng, kind, 5)
            idle = slow_alike(kind, train, ())
            self.assertIs(is_idle(kind, train), idle)
            if train:
                found[idle] += 1
            if idle:
                road = drawn_road(rng, kind, 9)
                self.assertEqual(slow_left(kind, train, road), road)
            stretches = idle_stretches(kind, train)
            self.assertEqual(stretches, slow_stretches(kind, train))
            rests = rests_of(kind, train)
            self.assertEqual(rests, sorted(slow_rests(kind, train)))
            counts.add((len(stretches), len(rests)))
            for rest in rests:
                self.assertTrue(slow_alike(kind, rest, train))
                self.assertEqual(idle_stretches(kind, rest), [])
        self.assertGreater(min(found.values()), 50, found)
        self.assertGreater(len(counts), 10)
        self.assertTrue(any(rests > 1 for _, rests in counts), counts)

    def test_several_rests(self):
        # Walkers turn on by 1 or by 2: together by 3, in some way.
        three = (((1, 0), (2, 0), (0, 0)), ((2, 1), (0, 1), (1, 1)))
        self.assertEqual(idle_stretches(three, (0, 1, 0)), [(0, 2), (1, 3)])
        self.assertEqual(rests_of(three, (0, 1, 0)), [(0,)])
        # Which of them is left hangs on what is taken out first.
        self.assertEqual(rests_of(three, (0, 0, 1, 1, 1)), [(0, 0), (1,)])
        self.assertEqual(rests_of(three, (0, 0, 0, 1)), [(0, 0), (1,)])
        # Two sorts do one thing.
        like = (((1, 0), (0, 0)), ((1, 1), (0, 1)))
        self.assertEqual(rests_of(like, (0, 1, 0)), [(0,)])
        self.assertEqual(rests_of(like, (0, 1, 1)), [(0,), (1,)])
        self.assertEqual(rests_of(like, (1, 0, 1, 1, 0)), sorted(slow_rests(like, (1, 0, 1, 1, 0))))

    def test_no_walkers_eight_walkers_one_setting(self):
        for kind in (U, Z, TURN, LOSE, (((0, 0),),)):
            self.assertEqual([is_idle(kind, ()), idle_stretches(kind, ()), rests_of(kind, ())], [True, [], [()]])
        one = (((0, 1),), ((0, 0),))
        self.assertEqual([is_idle(one, (0, 1) * 4), len(idle_stretches(one, (0, 1) * 4)), rests_of(one, (0, 1) * 4)],
                         [True, 36, [()]])
        self.assertEqual([is_idle(TURN, (0,) * 8), is_idle(TURN, (0,) * 7), rests_of(TURN, (0,) * 8),
                          rests_of(TURN, (0,) * 7)], [True, False, [()], [(0,)]])
        self.assertEqual(idle_stretches(TURN, (0,) * 8), slow_stretches(TURN, (0,) * 8))
        self.assertEqual([is_idle(LOSE, (0,)), idle_stretches(LOSE, (0, 1, 0)), rests_of(LOSE, (0, 1, 0))],
                         [False, [(1, 2)], [(0, 0)]])
        self.assertEqual(rests_of(U, (1, 0, 1, 0, 1, 0, 1, 1)), [(0, 0, 0)])
        six = tuple(tuple(((at + sort) % 6, sort) for at in range(6)) for sort in range(6))
        self.assertEqual([is_idle(six, (1, 5)), idle_stretches(six, (1, 2, 3)), rests_of(six, (1, 2, 3, 4, 2))],
                         [True, [(0, 3)], sorted(slow_rests(six, (1, 2, 3, 4, 2)))])

    def test_limit_of_walkers(self):
        for function in (is_idle, idle_stretches, rests_of):
            for kind, train in (FEW_1001, STILL_1001, (U, (0, 1))):
                # It is ahead of that with 1000.
                self.assertEqual(raised(lambda: function(kind, (train * 5)[:9])), "TooMany(8)")
                self.assertEqual(raised(lambda: function(kind, (1,) * 60)), "TooMany(8)")
                self.assertEqual(raised(lambda: function(kind, (1,) * 60 + (0,))), "InvalidTrain")
            self.assertIn("no error", raised(lambda: function(U, (0, 1) * 4)))

    def test_limit_of_trains(self):
        for function in (is_idle, idle_stretches, rests_of):
            for kind, train in (FEW_1001, STILL_1001, FEW_1000, STILL_1000):
                # The train without walkers is counted, too.
                self.assertEqual(raised(lambda: function(kind, train)), "TooMany(1000)")
                self.assertEqual(raised(lambda: function(kind, train + (6,))), "InvalidTrain")
        kind, train = COMING_999
        self.assertEqual(len(slow_coming(kind, train)), 999)
        self.assertEqual([is_idle(kind, train), len(idle_stretches(kind, train)), rests_of(kind, train)],
                         [True, 21, [()]])

    def test_limit_of_a_stretch(self):
        # The first walker leaves all latches in one setting, so that few trains come of all, and many of the others.
        for kind, train, many in BEHIND_ONE:
            self.assertEqual([len(slow_coming(kind, train)) + 1, len(slow_coming(kind, train[1:])) + 1], [5, many])
            self.assertIs(is_idle(kind, train), False)
            for function in (idle_stretches, rests_of):
                self.assertIs(raised(lambda: function(kind, train)) == "TooMany(1000)", many > 1000)
            if many <= 1000:
                self.assertEqual([len(idle_stretches(kind, train)), rests_of(kind, train)], [21, [(5,)]])

    def test_lists_are_new(self):
        check_new_list(self, idle_stretches, U, (0, 1, 0))
        check_new_list(self, rests_of, U, (0, 1, 0))

    def test_wrong_arguments(self):
        for function in (is_idle, idle_stretches, rests_of):
            check_wrong(self, function, (U, (0, 1)), [wrong("kind"), wrong("train")])
