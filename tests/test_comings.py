"""What comes of sorts and trains [6], [39]."""

import random
import unittest

from latchroads.comings import road_to, sorts_of, trains_of
from tests.helper import (KIND_1000, KIND_1001, TRAIN_1000, TRAIN_1001, U, check_wrong, drawn_kind, drawn_train,
                          all_rows, raised, rows_up_to, slow_coming, slow_passed, told, wrong)

LONG = (((1, 0), (2, 1), (0, 2)), ((0, 1), (2, 2), (1, 0)), ((2, 2), (1, 0), (0, 1)))


class ComingsTest(unittest.TestCase):

    def test_example(self):
        told(self, """
            >>> [sorts_of(U, 0), sorts_of(U, 1), trains_of(U, (0, 0)), road_to(U, (0, 0), (1, 1)), road_to(U, (0, 0), (1, 0)), road_to(U, (1,), (0,))]
            [(0, 1), (1,), ((0, 0), (1, 0), (0, 1), (1, 1)), (0, 0), (0,), None]
            """, dict(U=U, sorts_of=sorts_of, trains_of=trains_of, road_to=road_to))

    def test_trains_beside_slow_reading(self):
        rng = random.Random(39)
        for _ in range(150):
            kind = drawn_kind(rng, rng.randint(1, 6), rng.randint(1, 4))
            train = drawn_train(rng, kind, 3)
            self.assertEqual(trains_of(kind, train), tuple(slow_coming(kind, train)))

    def test_sorts_beside_slow_reading(self):
        rng = random.Random(40)
        for _ in range(150):
            kind = drawn_kind(rng)
            for sort in range(len(kind)):
                met = {train[0] for train in slow_coming(kind, (sort,))}
                self.assertEqual(sorts_of(kind, sort), tuple(sorted(met)))

    def test_roads_beside_all_roads(self):
        rng = random.Random(41)
        for _ in range(60):
            kind = drawn_kind(rng, rng.randint(1, 3), rng.randint(1, 2))
            train = drawn_train(rng, kind, 2)
            roads = rows_up_to(len(kind[0]), 4)
            # Of at most two walkers, of two sorts, at most four trains come,
            # so roads of at most three latches lead to all of them.
            for other in all_rows(len(kind), len(train)):
                ways = [road for road in roads if slow_passed(kind, train, road)[1] == other]
                self.assertEqual(road_to(kind, train, other), ways[0] if ways else None)

    def test_road_leads_there_and_none_is_lesser(self):
        rng = random.Random(42)
        for _ in range(40):
            kind = drawn_kind(rng, 2, rng.randint(3, 6))
            train = drawn_train(rng, kind, 3)
            coming = slow_coming(kind, train)
            least = {}
            for road in rows_up_to(2, 9):
                least.setdefault(slow_passed(kind, train, road)[1], road)
            for other in coming:
                road = road_to(kind, train, other)
                self.assertEqual(slow_passed(kind, train, road)[1], other)
                self.assertEqual(road, least.get(other, road))

    def test_itself_by_no_latch(self):
        self.assertEqual(road_to(U, (), ()), ())
        self.assertEqual(road_to(U, (0, 1, 0), (0, 1, 0)), ())
        self.assertEqual(trains_of(U, ()), ((),))
        self.assertEqual(sorts_of((((0, 0),),), 0), (0,))

    def test_trains_of_other_lengths_never_come(self):
        self.assertIsNone(road_to(U, (0, 0), (0,)))
        self.assertIsNone(road_to(U, (0, 0), (0, 0, 0)))
        self.assertIsNone(road_to(U, (), (1,)))

    def test_sixty_walkers(self):
        kind = tuple(((0, (sort + 1) % 6),) for sort in range(6))
        train = tuple(walker % 6 for walker in range(60))
        self.assertEqual(len(trains_of(kind, train)), 6)
        self.assertEqual(road_to(kind, train, tuple((walker + 5) % 6 for walker in range(60))), (0,) * 5)

    def test_limit(self):
        self.assertEqual(len(trains_of(KIND_1000, TRAIN_1000)), 1000)
        last = trains_of(KIND_1000, TRAIN_1000)[-1]
        road = road_to(KIND_1000, TRAIN_1000, last)
        self.assertEqual(slow_passed(KIND_1000, TRAIN_1000, road)[1], last)
        for other in (TRAIN_1001, (), (3,), (0,) * 60):
            self.assertEqual(raised(lambda: road_to(KIND_1001, TRAIN_1001, other)), "TooMany(1000)")
        self.assertEqual(raised(lambda: trains_of(KIND_1001, TRAIN_1001)), "TooMany(1000)")
        self.assertEqual(raised(lambda: trains_of(LONG, (0, 1, 2) * 20)), "TooMany(1000)")

    def test_too_many_behind_wrong_train(self):
        for other in ((4,), None, [0], (0,) * 61):
            self.assertEqual(raised(lambda: road_to(KIND_1001, TRAIN_1001, other)), "InvalidTrain")

    def test_wrong_arguments(self):
        check_wrong(self, sorts_of, (U, 0), [wrong("kind"), wrong("sort")])
        check_wrong(self, trains_of, (U, (0, 0)), [wrong("kind"), wrong("train")])
        check_wrong(self, road_to, (U, (0, 0), (1, 1)), [wrong("kind"), wrong("train"), wrong("train")])
