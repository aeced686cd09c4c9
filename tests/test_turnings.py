"""Kinds turned about and kinds worn down [24], [27], [65], and what [3] says of them."""

import random
import unittest

from latchroads.kinds import is_kind
from latchroads.turnings import is_worn, turned_kind, worn_down
from tests.helper import (U, Z, all_rows, check_wrong, doubled_kind, drawn_kind, drawn_road, drawn_train, slow_left,
                          slow_passed, told, turned_by_hand, wrong)


def alike_sorts(kind):
    """For each sort the least one that leaves all roads as it does, of as many latches as there are sorts."""
    roads = all_rows(len(kind[0]), len(kind))
    lefts = [[slow_left(kind, (sort,), road) for road in roads] for sort in range(len(kind))]
    return [lefts.index(left) for left in lefts]


def alike_settings(kind):
    """For each setting the least one out of a latch in which all trains, of so many walkers, come alike."""
    trains = all_rows(len(kind), len(kind[0]))
    outs = [[slow_passed(kind, train, (setting,))[1] for train in trains] for setting in range(len(kind[0]))]
    return [outs.index(out) for out in outs]


def few(kind):
    return len(kind[0]) ** len(kind) <= 1024 and len(kind) ** len(kind[0]) <= 1024


def slow_down(kind):
    """A kind worn down by the words of [27], and how many times something was made one."""
    times = 0
    while True:
        sorts, settings = alike_sorts(kind), alike_settings(kind)
        if len(set(sorts)) == len(sorts) and len(set(settings)) == len(settings):
            return kind, times
        if times % 2 == 0:
            left = sorted(set(sorts))
            kind = tuple(tuple((setting, left.index(sorts[out])) for setting, out in kind[sort]) for sort in left)
        else:
            left = sorted(set(settings))
            kind = tuple(tuple((left.index(settings[row[at][0]]), row[at][1]) for at in left) for row in kind)
        times += 1


class TurningsTest(unittest.TestCase):

    def test_example(self):
        told(self, """
            >>> X = (((0, 0), (1, 1)), ((0, 1), (1, 0)))
            >>> [turned_kind(U), turned_kind(X) == X, is_worn(U), worn_down(X), is_worn((((0, 0),),))]
            [(((1, 1), (1, 0)), ((0, 0), (1, 1))), False, True, (((0, 0),),), True]
            """, dict(U=U, turned_kind=turned_kind, is_worn=is_worn, worn_down=worn_down))

    def test_turned_entry_by_entry(self):
        rng = random.Random(65)
        for _ in range(200):
            kind = drawn_kind(rng)
            turned = turned_kind(kind)
            self.assertTrue(is_kind(turned))
            self.assertEqual((len(turned), len(turned[0])), (len(kind[0]), len(kind)))
            for sort in range(len(kind)):
                for setting in range(len(kind[0])):
                    self.assertEqual(turned[setting][sort], kind[sort][setting][::-1])
            self.assertEqual(turned_kind(turned), kind)

    def test_roads_go_through_trains(self):
        # [3]: a road leaves the train as what comes out of it, and comes out as what the train leaves.
        rng = random.Random(66)
        for _ in range(150):
            kind = drawn_kind(rng)
            train, road = drawn_train(rng, kind, 8), drawn_road(rng, kind, 8)
            left, out = slow_passed(kind, train, road)
            self.assertEqual(slow_passed(turned_kind(kind), road, train), (out, left))

    def test_worn_beside_slow_reading(self):
        rng = random.Random(67)
        found = [0, 0]
        for _ in range(300):
            kind = doubled_kind(rng, drawn_kind(rng, rng.randint(1, 4), rng.randint(1, 4)))
            if not few(kind):
                continue
            worn = len(set(alike_sorts(kind))) == len(kind) and len(set(alike_settings(kind))) == len(kind[0])
            self.assertIs(is_worn(kind), worn)
            found[worn] += 1
        self.assertGreater(min(found), 50)

    def test_worn_down_beside_slow_reading(self):
        rng = random.Random(68)
        found = set()
        for _ in range(500):
            kind = doubled_kind(rng, drawn_kind(rng, rng.randint(1, 4), rng.randint(1, 4)))
            if not few(kind):
                continue
            down, times = slow_down(kind)
            self.assertEqual(worn_down(kind), down)
            self.assertIs(is_worn(down), True)
            self.assertEqual(worn_down(down), down)
            found.add(times)
        self.assertLessEqual({0, 1, 2}, found)

    def test_sorts_or_settings_alone(self):
        # The sorts 0 and 2 are alike, behind them the settings 0 and 2.
        sorts = (((1, 1), (0, 0)), ((0, 1), (1, 1)), ((1, 1), (0, 2)))
        self.assertEqual([is_worn(sorts), worn_down(sorts)], [False, U])
        settings = turned_by_hand((turned_by_hand(U)[0], turned_by_hand(U)[1], turned_by_hand(U)[0]))
        self.assertEqual([is_worn(settings), worn_down(settings)], [False, U])
        self.assertEqual([is_worn(Z), worn_down(Z)], [slow_down(Z)[1] == 0, slow_down(Z)[0]])

    def test_several_times(self):
        # What is made one makes others alike, in turn sorts and settings.
        rng = random.Random(69)
        most = 0
        for _ in range(4000):
            kind = drawn_kind(rng, rng.randint(2, 4), rng.randint(2, 4))
            kind = tuple(tuple((min(left, at), min(behind, sort)) for at, (left, behind) in enumerate(row))
                         for sort, row in enumerate(kind))
            if is_worn(kind):
                continue
            down, times = slow_down(kind)
            self.assertEqual(worn_down(kind), down)
            most = max(most, times)
        self.assertGreaterEqual(most, 3)

    def test_one_setting_one_sort_six_of_each(self):
        self.assertEqual([turned_kind((((0, 0),),)), worn_down((((0, 0),),))], [(((0, 0),),)] * 2)
        one = tuple(((0, (sort + 1) % 6),) for sort in range(6))
        self.assertEqual(turned_kind(one), (tuple(((sort + 1) % 6, 0) for sort in range(6)),))
        self.assertEqual([is_worn(one), worn_down(one)], [False, (((0, 0),),)])
        self.assertEqual([is_worn(turned_kind(one)), worn_down(turned_kind(one))], [False, (((0, 0),),)])
        rng = random.Random(70)
        six = drawn_kind(rng, 6, 6)
        self.assertEqual([is_worn(six), worn_down(six)], [True, six])
        row = (tuple(((setting + 1) % 6, 0) for setting in range(6)),)
        self.assertEqual(worn_down(row), (((0, 0),),))

    def test_least_ones_are_left_in_order(self):
        kind = (((0, 2), (1, 3)), ((1, 0), (0, 3)), ((0, 2), (1, 3)), ((1, 2), (0, 1)))
        self.assertEqual(worn_down(kind), slow_down(kind)[0])
        self.assertEqual(worn_down(kind)[0][0][0], 0)

    def test_wrong_arguments(self):
        for function in (turned_kind, is_worn, worn_down):
            check_wrong(self, function, (U,), [wrong("kind")])
