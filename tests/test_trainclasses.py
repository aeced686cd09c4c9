"""Classes of trains [15], [50]."""

import random
import unittest

from latchroads.alikes import are_alike
from latchroads.trainclasses import classes_of_trains, least_alike
from tests.helper import (BIG, U, all_rows, check_new_list, check_wrong, drawn_kind, drawn_train, raised, rows_up_to,
                          slow_left, spun_kind, told, wrong)


def slow_classes(kind, trains, latches):
    """The classes of trains by what they leave all roads of so many latches like."""
    classes = {}
    for train in trains:
        key = tuple(slow_left(kind, train, road) for road in all_rows(len(kind[0]), latches))
        classes.setdefault(key, []).append(train)
    return sorted(tuple(sorted(found)) for found in classes.values())


class TrainClassesTest(unittest.TestCase):

    def test_example(self):
        told(self, """
            >>> [classes_of_trains(U, 2), least_alike(U, (1, 0, 1)), least_alike(U, (1, 1)), len(classes_of_trains(U, 3))]
            [[((0, 0),), ((0, 1), (1, 0)), ((1, 1),)], (0,), (), 4]
            """, dict(U=U, classes_of_trains=classes_of_trains, least_alike=least_alike))

    def test_beside_all_roads(self):
        rng = random.Random(50)
        for at in range(40):
            kind = drawn_kind(rng, 2, 2)
            for many in range(4 if at < 15 else 3):
                # Trains that are not alike are told apart by fewer latches than there are trains.
                trains = all_rows(2, many)
                self.assertEqual(classes_of_trains(kind, many), slow_classes(kind, trains, len(trains) - 1))

    def test_three_sorts(self):
        rng = random.Random(51)
        for _ in range(10):
            kind = drawn_kind(rng, 2, 3)
            self.assertEqual(classes_of_trains(kind, 1), slow_classes(kind, all_rows(3, 1), 2))
            self.assertEqual(classes_of_trains(kind, 2), slow_classes(kind, all_rows(3, 2), 8))

    def test_classes_beside_pairs(self):
        rng = random.Random(52)
        for _ in range(12):
            kind = spun_kind(rng, drawn_kind(rng, rng.randint(1, 3), rng.randint(1, 2)))[:3]
            kind = tuple(tuple((left, min(behind, len(kind) - 1)) for left, behind in row) for row in kind)
            for many in range(4 if len(kind) < 3 else 3):
                classes = classes_of_trains(kind, many)
                self.assertEqual(sorted(sum(classes, ())), all_rows(len(kind), many))
                self.assertEqual(classes, sorted(tuple(sorted(found)) for found in classes))
                for found in classes:
                    for train in found:
                        self.assertTrue(are_alike(kind, found[0], kind, train))
                firsts = [found[0] for found in classes]
                for one in firsts:
                    for two in firsts:
                        self.assertIs(are_alike(kind, one, kind, two), one == two)

    def test_least_beside_pairs(self):
        rng = random.Random(53)
        lengths = set()
        for _ in range(60):
            kind = spun_kind(rng, drawn_kind(rng, rng.randint(1, 2), rng.randint(1, 2)))[:3]
            kind = tuple(tuple((left, min(behind, len(kind) - 1)) for left, behind in row) for row in kind)
            train = drawn_train(rng, kind, 4)
            least = least_alike(kind, train)
            lesser = [other for other in rows_up_to(len(kind), len(train)) if are_alike(kind, train, kind, other)]
            self.assertEqual(least, lesser[0])
            lengths.add((len(train), len(least)))
        self.assertGreater(len(lengths), 8)

    def test_six_sorts_and_settings(self):
        still = tuple(tuple((setting, (sort + setting) % 6) for setting in range(6)) for sort in range(6))
        self.assertEqual(classes_of_trains(still, 4), [tuple(all_rows(6, 4))])
        self.assertEqual(least_alike(still, (5, 4, 3, 2)), ())
        turn = tuple(tuple(((setting + sort) % 6, sort) for setting in range(6)) for sort in range(6))
        self.assertEqual(len(classes_of_trains(turn, 4)), 6)
        self.assertEqual(least_alike(turn, (5, 5, 5, 5)), (2,))
        self.assertEqual(least_alike(turn, (5, 1, 3, 3)), ())
        rng = random.Random(54)
        kind = drawn_kind(rng, 6, 6)
        self.assertEqual(sum(len(found) for found in classes_of_trains(kind, 4)), 1296)

    def test_few_walkers(self):
        for kind in (U, (((0, 0),),)):
            self.assertEqual(classes_of_trains(kind, 0), [((),)])
            self.assertEqual(least_alike(kind, ()), ())
        self.assertEqual(classes_of_trains((((0, 0),),), 4), [((0, 0, 0, 0),)])
        self.assertEqual(least_alike((((1, 0), (0, 0)),), (0, 0, 0)), (0,))

    def test_limit(self):
        self.assertEqual(len(classes_of_trains(U, 4)), 5)
        self.assertEqual(least_alike(U, (1, 0, 1, 0)), (0, 0))
        for many in (5, 6, 60, 61, 1000, BIG):
            self.assertEqual(raised(lambda: classes_of_trains(U, many)), "TooMany(4)")
        for many in (5, 6, 60):
            self.assertEqual(raised(lambda: least_alike(U, (1,) * many)), "TooMany(4)")
        self.assertEqual(raised(lambda: least_alike(U, (1,) * 61)), "InvalidTrain")
        self.assertEqual(raised(lambda: least_alike(U, (1, 0, 1, 0, 2))), "InvalidTrain")

    def test_wrong_arguments(self):
        check_wrong(self, classes_of_trains, (U, 2), [wrong("kind"), wrong("number", 0, None)])
        check_wrong(self, least_alike, (U, (1, 0)), [wrong("kind"), wrong("train")])
        check_new_list(self, classes_of_trains, U, 2)
