"""Roads that come before a road [19], [58]."""

import random
import unittest

from latchroads.befores import count_before, least_before, sure_before
from tests.helper import (KIND_1000, KIND_1001, TRAIN_1000, TRAIN_1001, U, Z, all_rows, check_wrong, drawn_kind,
                          drawn_road, drawn_train, mixed_kind, raised, roads_left, slow_left, slow_passed, told, wrong)


def ways_back(kind, train, road):
    """How many roads come before a road, reckoned from its last latch on, for each train once."""
    known = {}
    todo = [(train, 0)]
    while todo:
        first, at = todo[-1]
        if at == len(road):
            known[todo.pop()] = 1
            continue
        outs = [slow_passed(kind, first, (setting,)) for setting in range(len(kind[0]))]
        behind = [(out, at + 1) for left, out in outs if left == (road[at],)]
        missing = [case for case in behind if case not in known]
        todo += missing
        if not missing:
            known[todo.pop()] = sum(known[case] for case in behind)
    return known[train, 0]


class BeforesTest(unittest.TestCase):

    def test_example(self):
        told(self, """
            >>> Z = (((0, 0), (1, 1)), ((0, 0), (0, 0)))
            >>> [count_before(Z, (0,), (1, 0)), least_before(Z, (0,), (1, 0)), sure_before(Z, (0,), (1, 0)), least_before(Z, (0,), (1, 1)), count_before(U, (0,), (0, 1, 0))]
            [2, (1, 0), (1, None), None, 1]
            """, dict(U=U, count_before=count_before, least_before=least_before, sure_before=sure_before))

    def test_beside_all_roads(self):
        rng = random.Random(58)
        counts = set()
        sures = set()
        for _ in range(250):
            settings = rng.randint(1, 4)
            kind = mixed_kind(rng, settings, rng.randint(1, 4), 0.6)
            train = drawn_train(rng, kind, 3)
            latches = rng.randint(0, {1: 5, 2: 6, 3: 4, 4: 3}[settings])
            befores = {road: [] for road in all_rows(settings, latches)}
            for road, left in roads_left(kind, train, latches):
                befores[left].append(road)
            for road, before in befores.items():
                self.assertEqual(count_before(kind, train, road), len(before))
                self.assertEqual(least_before(kind, train, road), before[0] if before else None)
                sure = None
                if before:
                    sure = tuple(row[0] if len(set(row)) == 1 else None for row in zip(*before))
                self.assertEqual(sure_before(kind, train, road), sure)
                counts.add(len(before))
                sures.add(None if sure is None else (None in sure, any(item is not None for item in sure)))
        self.assertGreater(len(counts), 10)
        self.assertEqual(sures, {None, (False, False), (True, False), (False, True), (True, True)})

    def test_many_latches(self):
        rng = random.Random(59)
        for _ in range(60):
            kind = mixed_kind(rng, rng.randint(2, 4), rng.randint(1, 3), 0.6)
            train = drawn_train(rng, kind, 3)
            first = tuple(rng.randrange(len(kind[0])) for _ in range(60))
            for road in (slow_left(kind, train, first), drawn_road(rng, kind, 60)):
                many = ways_back(kind, train, road)
                self.assertEqual(count_before(kind, train, road), many)
                before, sure = least_before(kind, train, road), sure_before(kind, train, road)
                self.assertEqual([before is None, sure is None], [many == 0] * 2)
                if many:
                    self.assertEqual(slow_left(kind, train, before), road)
                    self.assertEqual(len(sure), len(road))
                    self.assertTrue(all(item in (None, setting) for item, setting in zip(sure, before)))
                    self.assertIs(None in sure, many > 1)
            road = slow_left(kind, train, first)
            self.assertLessEqual(least_before(kind, train, road), first)
            self.assertTrue(all(item in (None, setting) for item, setting
                                in zip(sure_before(kind, train, road), first)))

    def test_sixty_latches(self):
        six = (tuple((0, 0) for _ in range(6)),)
        self.assertEqual(count_before(six, (0,), (0,) * 60), 6 ** 60)
        self.assertEqual(least_before(six, (0,), (0,) * 60), (0,) * 60)
        self.assertEqual(sure_before(six, (0,), (0,) * 60), (None,) * 60)
        self.assertEqual(count_before(six, (0,), (0,) * 59 + (1,)), 0)
        self.assertIsNone(least_before(six, (0,), (0,) * 59 + (1,)))
        self.assertIsNone(sure_before(six, (0,), (0,) * 59 + (1,)))
        self.assertEqual(count_before(U, (0,) * 5, (1, 0) * 30), 1)
        before = least_before(U, (0,) * 5, (1, 0) * 30)
        self.assertEqual(slow_left(U, (0,) * 5, before), (1, 0) * 30)
        self.assertEqual(sure_before(U, (0,) * 5, (1, 0) * 30), before)

    def test_what_looks_fit_ahead_may_end(self):
        # Behind a 1 left there is no way on that leaves a 1, so the first way, by the setting 0, is shut.
        kind = (((0, 1), (0, 2), (2, 0)), ((0, 1), (0, 1), (0, 1)), ((1, 2), (1, 2), (2, 2)))
        self.assertEqual(least_before(kind, (0,), (0, 1)), (1, 0))
        self.assertEqual(sure_before(kind, (0,), (0, 1)), (1, None))
        self.assertEqual(count_before(kind, (0,), (0, 1)), 2)
        self.assertEqual(count_before(kind, (0,), (0, 0)), 3)
        self.assertEqual(sure_before(kind, (0,), (0, 0)), (0, None))

    def test_no_latches_no_walkers_one_setting(self):
        for kind, train in ((U, ()), (U, (0, 1)), (Z, (1,)), ((((0, 0),),), (0,))):
            self.assertEqual([count_before(kind, train, ()), least_before(kind, train, ()),
                              sure_before(kind, train, ())], [1, (), ()])
        self.assertEqual([count_before(Z, (), (1, 1)), least_before(Z, (), (1, 1)), sure_before(Z, (), (1, 1))],
                         [1, (1, 1), (1, 1)])
        one = (((0, 1),), ((0, 0),))
        self.assertEqual([count_before(one, (0, 1), (0,) * 60), least_before(one, (0, 1), (0,) * 60),
                          sure_before(one, (0, 1), (0,) * 60)], [1, (0,) * 60, (0,) * 60])

    def test_limit(self):
        for function in (count_before, least_before, sure_before):
            for road in ((), (0,), (2,) * 60):
                self.assertEqual(raised(lambda: function(KIND_1001, TRAIN_1001, road)), "TooMany(1000)")
            self.assertEqual(raised(lambda: function(KIND_1001, TRAIN_1001, (3,))), "InvalidRoad")
            self.assertNotEqual(raised(lambda: function(KIND_1000, TRAIN_1000, (0, 1))), "TooMany(1000)")
        road = slow_left(KIND_1000, TRAIN_1000, (0, 1) * 30)
        self.assertEqual(count_before(KIND_1000, TRAIN_1000, road), ways_back(KIND_1000, TRAIN_1000, road))
        self.assertEqual(slow_left(KIND_1000, TRAIN_1000, least_before(KIND_1000, TRAIN_1000, road)), road)

    def test_six_of_each(self):
        rng = random.Random(60)
        for _ in range(10):
            kind = drawn_kind(rng, 6, 6)
            train = drawn_train(rng, kind, 2)
            lefts = roads_left(kind, train, 2)
            for road in rng.sample(all_rows(6, 2), 12):
                before = [first for first, left in lefts if left == road]
                self.assertEqual(count_before(kind, train, road), len(before))
                self.assertEqual(least_before(kind, train, road), before[0] if before else None)

    def test_wrong_arguments(self):
        for function in (count_before, least_before, sure_before):
            check_wrong(self, function, (U, (0, 1), (1, 0)), [wrong("kind"), wrong("train"), wrong("road")])
