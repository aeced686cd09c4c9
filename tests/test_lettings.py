"""The roads out of which a train comes as another one [68]."""

import random
import unittest

from latchroads.lettings import count_letting, letting_road
from tests.helper import (FEW_1000, FEW_1001, STILL_1000, STILL_1001, U, X, all_rows, check_wrong, drawn_kind,
                          drawn_train, raised, slow_coming, slow_passed, told, wrong)


def counts_of_coming(kind, train, latches):
    """For each train out of how many roads of so many latches the train comes as it."""
    counts = {train: 1}
    for _ in range(latches):
        longer = {}
        for first, many in counts.items():
            for setting in range(len(kind[0])):
                out = slow_passed(kind, first, (setting,))[1]
                longer[out] = longer.get(out, 0) + many
        counts = longer
    return counts


class LettingsTest(unittest.TestCase):

    def test_example(self):
        told(self, """
            >>> [count_letting(U, (0,), (1,), 60) == 2 ** 60 - 1, letting_road(U, (0, 0), (1, 1), 3), letting_road(U, (0, 0), (0, 0), 2), count_letting(X, (0, 1), (1, 0), 4)]
            [True, (0, 0, 0), None, 8]
            """, dict(U=U, X=X, count_letting=count_letting, letting_road=letting_road))

    def test_beside_all_roads(self):
        rng = random.Random(68)
        found = set()
        for _ in range(200):
            settings = rng.randint(1, 4)
            kind = drawn_kind(rng, settings, rng.randint(1, 4))
            train = drawn_train(rng, kind, 4)
            latches = rng.randint(0, {1: 5, 2: 6, 3: 4, 4: 3}[settings])
            roads = {}
            for road in all_rows(settings, latches):
                roads.setdefault(slow_passed(kind, train, road)[1], []).append(road)
            others = slow_coming(kind, train) + [drawn_train(rng, kind, 4) for _ in range(3)] + [train + (0,)]
            for other in others:
                if len(other) > 6:
                    continue
                through = roads.get(other, [])
                self.assertEqual(count_letting(kind, train, other, latches), len(through))
                self.assertEqual(letting_road(kind, train, other, latches), through[0] if through else None)
                found.add(min(len(through), 20))
        self.assertGreater(len(found), 15)

    def test_sixty_latches(self):
        rng = random.Random(69)
        for _ in range(40):
            kind = drawn_kind(rng, rng.randint(1, 6), rng.randint(1, 4))
            train = drawn_train(rng, kind, 3)
            counts = counts_of_coming(kind, train, 60)
            self.assertEqual(sum(counts.values()), len(kind[0]) ** 60)
            for other in slow_coming(kind, train):
                self.assertEqual(count_letting(kind, train, other, 60), counts.get(other, 0))
                road = letting_road(kind, train, other, 60)
                self.assertIs(road is None, other not in counts)
                if road is not None:
                    self.assertEqual(len(road), 60)
                    self.assertEqual(slow_passed(kind, train, road)[1], other)
                    # No lesser setting at any latch leads to the other train behind as many latches.
                    first = train
                    for at, setting in enumerate(road[:12]):
                        for less in range(setting):
                            out = slow_passed(kind, first, (less,))[1]
                            self.assertNotIn(other, counts_of_coming(kind, out, 59 - at))
                        first = slow_passed(kind, first, (setting,))[1]

    def test_no_latches_no_walkers_one_setting(self):
        self.assertEqual([count_letting(U, (0, 1), (0, 1), 0), letting_road(U, (0, 1), (0, 1), 0)], [1, ()])
        self.assertEqual([count_letting(U, (0, 1), (1, 1), 0), letting_road(U, (0, 1), (1, 1), 0)], [0, None])
        self.assertEqual([count_letting(U, (), (), 60), letting_road(U, (), (), 60)], [2 ** 60, (0,) * 60])
        self.assertEqual([count_letting(U, (), (0,), 5), letting_road(U, (0,), (), 5)], [0, None])
        one = (((0, 1),), ((0, 0),))
        self.assertEqual([count_letting(one, (0, 1), (1, 0), 59), count_letting(one, (0, 1), (1, 0), 60),
                          letting_road(one, (0, 1), (1, 0), 59), letting_road(one, (0, 1), (1, 0), 60)],
                         [1, 0, (0,) * 59, None])

    def test_six_of_each(self):
        rng = random.Random(70)
        kind = drawn_kind(rng, 6, 6)
        for train in ((0,), (5,), (1, 2)):
            for latches in (1, 2, 3):
                roads = [road for road in all_rows(6, latches) if slow_passed(kind, train, road)[1] == train]
                self.assertEqual(count_letting(kind, train, train, latches), len(roads))
                self.assertEqual(letting_road(kind, train, train, latches), roads[0] if roads else None)

    def test_limit(self):
        for function in (count_letting, letting_road):
            for kind, train in (FEW_1001, STILL_1001):
                for other in (train, (), (0,) * 6):
                    for latches in (0, 60):
                        self.assertEqual(raised(lambda: function(kind, train, other, latches)), "TooMany(1000)")
                self.assertEqual(raised(lambda: function(kind, train, (0,) * 7, 1)), "InvalidTrain")
                self.assertEqual(raised(lambda: function(kind, train, train, 61)), "InvalidNumber")
                # The other train may be one of which too many come.
                self.assertIn(function(kind, (), train, 60), (0, None))
        for kind, train in (FEW_1000, STILL_1000):
            self.assertEqual(len(slow_coming(kind, train)), 1000)
            counts = counts_of_coming(kind, train, 5)
            for other in sorted(counts)[:5]:
                self.assertEqual(count_letting(kind, train, other, 5), counts[other])
                self.assertEqual(slow_passed(kind, train, letting_road(kind, train, other, 5))[1], other)

    def test_wrong_arguments(self):
        for function in (count_letting, letting_road):
            check_wrong(self, function, (U, (0, 1), (1,), 3),
                        [wrong("kind"), wrong("few walkers"), wrong("few walkers"), wrong("number", 0, 60)])
