"""Kinds made of others [11], [46], and what [3] says of them."""

import random
import unittest

from latchroads.kinds import is_kind
from latchroads.kindsmade import kind_of_trains, side_by_side, two_latches
from tests.helper import (KIND_1001, TRAIN_1001, U, check_wrong, drawn_kind, drawn_road, drawn_train, raised,
                          slow_coming, slow_left, slow_passed, told, wrong)


class KindsMadeTest(unittest.TestCase):

    def test_example(self):
        told(self, """
            >>> [side_by_side(U, (((0, 0), (1, 0)),)), kind_of_trains(U, (0, 0)), two_latches(U)[0]]
            [(((1, 1), (0, 0)), ((0, 1), (1, 1)), ((0, 2), (1, 2))), (((0, 1), (1, 2)), ((1, 3), (0, 1)), ((1, 3), (0, 2)), ((0, 3), (1, 3))), ((2, 1), (3, 1), (1, 1), (0, 0))]
            """, dict(U=U, side_by_side=side_by_side, kind_of_trains=kind_of_trains, two_latches=two_latches))

    def test_side_by_side(self):
        rng = random.Random(46)
        for _ in range(100):
            settings, sorts = rng.randint(1, 6), rng.randint(1, 5)
            kind, beside = drawn_kind(rng, settings, sorts), drawn_kind(rng, settings, rng.randint(1, 6 - sorts))
            both = side_by_side(kind, beside)
            self.assertTrue(is_kind(both))
            self.assertEqual(len(both), len(kind) + len(beside))
            train, other = drawn_train(rng, kind, 5), drawn_train(rng, beside, 5)
            road = drawn_road(rng, kind, 6)
            self.assertEqual(slow_passed(both, train, road), slow_passed(kind, train, road))
            left, out = slow_passed(beside, other, road)
            later = [sort + len(kind) for sort in other]
            self.assertEqual(slow_passed(both, later, road), (left, tuple(sort + len(kind) for sort in out)))

    def test_side_by_side_limit(self):
        rng = random.Random(47)
        for sorts in range(1, 7):
            for others in range(1, 7):
                kind, beside = drawn_kind(rng, 2, sorts), drawn_kind(rng, 2, others)
                if sorts + others <= 6:
                    self.assertTrue(is_kind(side_by_side(kind, beside)))
                else:
                    self.assertEqual(raised(lambda: side_by_side(kind, beside)), "TooMany(6)")
        self.assertEqual(side_by_side((((0, 0),),), (((0, 0),),)), (((0, 0),), ((0, 1),)))

    def test_kinds_of_trains(self):
        rng = random.Random(48)
        sizes = set()
        for _ in range(400):
            kind = drawn_kind(rng, rng.randint(1, 3), rng.randint(1, 4))
            train = drawn_train(rng, kind, 4)
            coming = slow_coming(kind, train)
            if len(coming) > 6:
                self.assertEqual(raised(lambda: kind_of_trains(kind, train)), "TooMany(6)")
                continue
            made = kind_of_trains(kind, train)
            self.assertTrue(is_kind(made))
            sizes.add(len(made))
            self.assertEqual(len(made), len(coming))
            for sort, row in enumerate(made):
                for setting, (left, behind) in enumerate(row):
                    self.assertEqual(((left,), coming[behind]), slow_passed(kind, coming[sort], (setting,)))
            road = drawn_road(rng, kind, 10)
            for sort, first in enumerate(coming):
                self.assertEqual(slow_left(made, (sort,), road), slow_left(kind, first, road))
        self.assertEqual(sizes, {1, 2, 3, 4, 5, 6})

    def test_kinds_of_trains_limit(self):
        ring = tuple(((0, (sort + 1) % 6),) for sort in range(6))
        self.assertEqual(len(kind_of_trains(ring, (0, 1) * 30)), 6)
        self.assertEqual(kind_of_trains(ring, (0,)), ring)
        self.assertEqual(kind_of_trains(U, ()), (((0, 0), (1, 0)),))
        self.assertEqual(len(kind_of_trains(U, (0, 0, 0))), 6)
        self.assertEqual(raised(lambda: kind_of_trains(U, (0, 0, 0, 0))), "TooMany(6)")
        self.assertEqual(raised(lambda: kind_of_trains(KIND_1001, TRAIN_1001)), "TooMany(6)")

    def test_seven_trains_are_too_many(self):
        rng = random.Random(49)
        met = 0
        while not met:
            kind = drawn_kind(rng, 2, 3)
            if len(slow_coming(kind, (0, 1))) == 7:
                met += 1
                self.assertEqual(raised(lambda: kind_of_trains(kind, (0, 1))), "TooMany(6)")

    def test_two_latches(self):
        rng = random.Random(50)
        for _ in range(60):
            kind = drawn_kind(rng, 2)
            made = two_latches(kind)
            self.assertTrue(is_kind(made))
            self.assertEqual((len(made), len(made[0])), (len(kind), 4))
            train, road = drawn_train(rng, kind, 5), drawn_road(rng, made, 5)
            latches = tuple(latch for both in road for latch in divmod(both, 2))
            left, out = slow_passed(kind, train, latches)
            whole = tuple(left[at] * 2 + left[at + 1] for at in range(0, len(left), 2))
            self.assertEqual(slow_passed(made, train, road), (whole, out))

    def test_two_latches_limit(self):
        self.assertEqual(two_latches((((0, 1),), ((0, 0),))), (((0, 0),), ((0, 1),)))
        self.assertEqual(len(two_latches((((0, 0), (1, 0)),) * 6)), 6)
        for settings in range(3, 7):
            self.assertEqual(raised(lambda: two_latches((((0, 0),) * settings,))), "TooMany(6)")

    def test_wrong_arguments(self):
        for beside in ("beside", "unlike"):
            check_wrong(self, side_by_side, (U, U), [wrong("kind"), wrong(beside)])
        check_wrong(self, kind_of_trains, (U, (0,)), [wrong("kind"), wrong("train")])
        check_wrong(self, two_latches, (U,), [wrong("kind")])
        six = (((0, 0), (1, 0)),) * 6
        self.assertEqual(raised(lambda: side_by_side(six, (((0, 0),),))), "UnlikeSettings")
        self.assertEqual(raised(lambda: side_by_side(six, six[:1] + six)), "InvalidKind")
        self.assertEqual(raised(lambda: kind_of_trains(U, (0, 0, 0, 2))), "InvalidTrain")
