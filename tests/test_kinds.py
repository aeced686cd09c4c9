"""Kinds, trains and roads [4], [37]."""

import random
import unittest

from latchroads.kinds import is_kind, is_road, is_train
from tests.helper import BIG, KIND_LIKES, SPOILT, U, drawn_kind, raised, told, wrong


class KindsTest(unittest.TestCase):

    def test_example(self):
        told(self, """
            >>> [is_kind(U), is_kind(U[:1]), is_kind((((0, 0),),)), is_kind((((0, 0), (2, 0)),)), is_train(U, (0, 1, 1)), is_train(U, (2,)), is_road(U, ()), is_road(U, (0, 2))]
            [True, False, True, False, True, False, True, False]
            """, dict(U=U, is_kind=is_kind, is_train=is_train, is_road=is_road))

    def test_drawn_kinds(self):
        rng = random.Random(37)
        for _ in range(300):
            self.assertIs(is_kind(drawn_kind(rng)), True)

    def test_all_sizes(self):
        for settings in range(0, 8):
            for sorts in range(0, 8):
                kind = tuple(tuple((max(settings - 1, 0), max(sorts - 1, 0)) for _ in range(settings))
                             for _ in range(sorts))
                self.assertIs(is_kind(kind), 1 <= settings <= 6 and 1 <= sorts <= 6, kind)

    def test_each_pair_spoilt(self):
        rng = random.Random(38)
        for _ in range(60):
            kind = drawn_kind(rng)
            sorts, settings = len(kind), len(kind[0])
            sort, setting = rng.randrange(sorts), rng.randrange(settings)
            for pair in ((settings, 0), (0, sorts), (-1, 0), (0, -1), (False, 0), (0, False), (0,), (0, 0, 0),
                         [0, 0], "00", None, 0, (None, 0), (0, "0"), (BIG, 0), ((0,), 0), (), (0, (0,))):
                rows = [list(row) for row in kind]
                rows[sort][setting] = pair
                self.assertIs(is_kind(tuple(map(tuple, rows))), False, pair)

    def test_any_other_value_is_no_kind(self):
        for value in SPOILT + KIND_LIKES:
            self.assertIs(is_kind(value), False, value)

    def test_trains_and_roads_of_six(self):
        kind = tuple(tuple((0, 0) for _ in range(3)) for _ in range(6))
        for value in range(-1, 8):
            self.assertIs(is_train(kind, (0, value)), 0 <= value < 6)
            self.assertIs(is_road(kind, (0, value)), 0 <= value < 3)

    def test_trains_and_roads_of_one(self):
        for value in range(-1, 8):
            self.assertIs(is_train((((0, 0), (0, 0), (1, 0)),), (value, 0)), value == 0)
            self.assertIs(is_road((((0, 0), (0, 0), (1, 0)),), (value, 0)), 0 <= value < 3)
            self.assertIs(is_train((((0, 0),), ((0, 1),)), (value, 0)), 0 <= value < 2)
            self.assertIs(is_road((((0, 0),), ((0, 1),)), (value, 0)), value == 0)

    def test_lengths(self):
        for many in (0, 1, 59, 60, 61, 62, 1000):
            self.assertIs(is_train(U, (1,) * many), many <= 60)
            self.assertIs(is_road(U, (1,) * many), many <= 60)

    def test_any_other_value_is_no_train_and_no_road(self):
        for value in wrong("train")[1]:
            self.assertIs(is_train(U, value), False, value)
        for value in wrong("road")[1]:
            self.assertIs(is_road(U, value), False, value)

    def test_one_spoilt_item(self):
        for value in (True, False, None, "0", (0,), [0], -1, 2, BIG, -BIG):
            for at in (0, 3, 59):
                row = [0] * 60
                row[at] = value
                self.assertIs(is_train(U, tuple(row)), False, value)
                self.assertIs(is_road(U, tuple(row)), False, value)

    def test_wrong_kind(self):
        for function in (is_train, is_road):
            for value in wrong("kind")[1]:
                for row in ((), (0, 1), (9,), None):
                    self.assertEqual(raised(lambda: function(value, row)), "InvalidKind", value)
