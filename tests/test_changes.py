"""Webs, and how many latches are changed [21], [61], and what [3] says of it."""

import random
import unittest

from latchroads.changes import changed_at, changed_latches, web_of
from latchroads.comings import trains_of
from tests.helper import (KIND_1001, KIND_200, KIND_201, TRAIN_1001, TRAIN_200, TRAIN_201, U, Z, check_wrong,
                          drawn_kind, drawn_road, drawn_train, raised, roads_left, slow_changes, slow_coming,
                          slow_left, slow_web, told, wrong)


def slow_most(kind, train, latches, best):
    """The greatest or the least number of changed latches, reckoned by the trains behind 0, 1, 2 .. latches."""
    web = slow_web(kind, train)
    layer = {0: 0}
    for _ in range(latches):
        longer = {}
        for at, many in layer.items():
            for to, change in web[at]:
                longer[to] = best(longer.get(to, many + change), many + change)
        layer = longer
    return best(layer.values())


class ChangesTest(unittest.TestCase):

    def test_examples(self):
        told(self, """
            >>> [web_of(U, (0,)), changed_latches(U, (0,), (1, 1, 0, 1)), changed_latches(U, (0, 0), (1, 1, 0, 1))]
            [(((1, 1), (0, 1)), ((1, 0), (1, 0))), (0, 1, 2), (1, 2)]
            >>> [changed_at(U, (0,), "most", 5), changed_at(U, (0,), "least", 5), changed_at(U, (0, 0), "most", 5), changed_at(U, (0, 0), "least", 0)]
            [5, 1, 4, 0]
            """, dict(U=U, web_of=web_of, changed_latches=changed_latches, changed_at=changed_at))

    def test_webs(self):
        rng = random.Random(61)
        for _ in range(120):
            kind = drawn_kind(rng, rng.randint(1, 6), rng.randint(1, 4))
            train = drawn_train(rng, kind, 3)
            if len(slow_coming(kind, train)) <= 200:
                self.assertEqual(web_of(kind, train), slow_web(kind, train))
                self.assertEqual(len(web_of(kind, train)), len(trains_of(kind, train)))

    def test_changed_latches(self):
        rng = random.Random(62)
        found = set()
        for _ in range(200):
            kind = drawn_kind(rng)
            train, road = drawn_train(rng, kind, 5), drawn_road(rng, kind, 8)
            changes = slow_changes(road, slow_left(kind, train, road))
            self.assertEqual(changed_latches(kind, train, road), tuple(changes))
            found.add(len(changes))
        self.assertGreater(len(found), 6)

    def test_changed_beside_all_roads(self):
        rng = random.Random(63)
        found = set()
        for _ in range(150):
            settings = rng.randint(1, 4)
            kind = drawn_kind(rng, settings, rng.randint(1, 4))
            train = drawn_train(rng, kind, 3)
            if len(slow_coming(kind, train)) > 200:
                continue
            for latches in range({1: 5, 2: 6, 3: 4, 4: 4}[settings]):
                many = [len(slow_changes(*both)) for both in roads_left(kind, train, latches)]
                self.assertEqual(changed_at(kind, train, "most", latches), max(many))
                self.assertEqual(changed_at(kind, train, "least", latches), min(many))
                found.add((min(many), max(many)))
        self.assertGreater(len(found), 12)

    def test_many_latches(self):
        rng = random.Random(64)
        for _ in range(30):
            kind = drawn_kind(rng, rng.randint(2, 4), rng.randint(1, 3))
            train = drawn_train(rng, kind, 3)
            for latches in (0, 1, 60, 199, 200):
                self.assertEqual(changed_at(kind, train, "most", latches), slow_most(kind, train, latches, max))
                self.assertEqual(changed_at(kind, train, "least", latches), slow_most(kind, train, latches, min))
        self.assertEqual([changed_at(U, (0,), side, 200) for side in ("most", "least")], [200, 1])

    def test_sixty_walkers_and_latches(self):
        six = tuple(tuple(((setting + 1) % 6, (sort + 1) % 6) for setting in range(6)) for sort in range(6))
        road = tuple(latch % 6 for latch in range(60))
        self.assertEqual(changed_latches(six, (0, 3) * 30, road), ())
        self.assertEqual(changed_latches(six, (0, 3) * 29 + (1,), road), tuple(range(60)))
        self.assertEqual(changed_at(six, (0, 3) * 30, "most", 200), 0)
        self.assertEqual(changed_at(six, (0,) * 59, "least", 200), 200)

    def test_nothing_and_one_setting(self):
        for kind, train in ((U, ()), (Z, ()), ((((0, 1),), ((0, 0),)), (0, 1)), (U, (1, 1))):
            self.assertEqual([changed_at(kind, train, side, 200) for side in ("most", "least")], [0, 0])
            self.assertEqual(changed_latches(kind, train, (0,) * 60), ())
            self.assertTrue(all(change == 0 for row in web_of(kind, train) for _, change in row))
        for train in ((), (0,), (0, 0)):
            self.assertEqual([changed_at(U, train, side, 0) for side in ("most", "least")], [0, 0])
            self.assertEqual(changed_latches(U, train, ()), ())
        self.assertEqual(web_of(U, ()), (((0, 0), (0, 0)),))

    def test_limit(self):
        self.assertEqual([len(slow_coming(KIND_200, TRAIN_200)), len(slow_coming(KIND_201, TRAIN_201))], [200, 201])
        self.assertEqual(web_of(KIND_200, TRAIN_200), slow_web(KIND_200, TRAIN_200))
        for side in ("most", "least"):
            best = max if side == "most" else min
            self.assertEqual(changed_at(KIND_200, TRAIN_200, side, 200), slow_most(KIND_200, TRAIN_200, 200, best))
            for latches in (0, 1, 200):
                self.assertEqual(raised(lambda: changed_at(KIND_201, TRAIN_201, side, latches)), "TooMany(200)")
                self.assertEqual(raised(lambda: changed_at(KIND_1001, TRAIN_1001, side, latches)), "TooMany(200)")
            self.assertEqual(raised(lambda: changed_at(KIND_201, TRAIN_201, side, 201)), "InvalidNumber")
        self.assertEqual(raised(lambda: changed_at(KIND_201, TRAIN_201, "last", 201)), "InvalidSide")
        self.assertEqual(raised(lambda: web_of(KIND_201, TRAIN_201)), "TooMany(200)")
        self.assertEqual(raised(lambda: web_of(KIND_201, TRAIN_201 + (5,))), "InvalidTrain")

    def test_changed_latches_has_no_limit(self):
        road = (0, 1, 2) * 20
        for kind, train in ((KIND_201, TRAIN_201), (KIND_1001, TRAIN_1001)):
            changes = slow_changes(road, slow_left(kind, train, road))
            self.assertEqual(changed_latches(kind, train, road), tuple(changes))

    def test_wrong_arguments(self):
        check_wrong(self, web_of, (U, (0, 1)), [wrong("kind"), wrong("train")])
        check_wrong(self, changed_latches, (U, (0, 1), (0, 1)), [wrong("kind"), wrong("train"), wrong("road")])
        check_wrong(self, changed_at, (U, (0, 1), "most", 7),
                    [wrong("kind"), wrong("train"), wrong("side"), wrong("number", 0, 200)])
