"""How many more latches one train changes than another [21], [64]."""

import random
import unittest

from latchroads.changes import changed_at
from latchroads.shares import most_changed
from latchroads.twochanges import most_ahead
from tests.helper import (KIND_1001, KIND_200, KIND_201, TRAIN_1001, TRAIN_200, TRAIN_201, U, Z, all_rows, check_wrong,
                          drawn_kind, drawn_train, ending_kind, raised, rows_up_to, slow_changes, slow_left, slow_pairs,
                          slow_passed, told, wrong)


def ahead_on(kind, train, other, road):
    """By how many latches of a road the one train changes more than the other one."""
    return (len(slow_changes(road, slow_left(kind, train, road)))
            - len(slow_changes(road, slow_left(kind, other, road))))


def slow_ahead(kind, train, other):
    """The greatest number, by pairs behind 0, 1, 2 .. latches, or None if it grows for ever."""
    pairs = len(slow_pairs(kind, train, kind, other))
    layer = {(train, other): 0}
    best = [0]
    # A ring that gains something gains as much as is ever lost ahead of it within so many latches.
    for _ in range(pairs * pairs + 2 * pairs):
        longer = {}
        for (one, two), many in layer.items():
            for setting in range(len(kind[0])):
                (left,), out = slow_passed(kind, one, (setting,))
                (other_left,), other_out = slow_passed(kind, two, (setting,))
                more = many + (left != setting) - (other_left != setting)
                longer[out, other_out] = max(longer.get((out, other_out), more), more)
        layer = longer
        best.append(max(layer.values()))
    return max(best) if max(best) == max(best[:pairs]) else None


class TwoChangesTest(unittest.TestCase):

    def test_example(self):
        told(self, """
            >>> [most_ahead(U, (0,), (1,)), most_ahead(U, (1,), (0,)), most_ahead(U, (0,), (0, 0)), most_ahead(U, (0, 0), (0,)), most_ahead(U, (0,), (0,))]
            [None, 0, 1, None, 0]
            """, dict(U=U, most_ahead=most_ahead))

    def test_beside_slow_reading(self):
        rng = random.Random(64)
        found = {}
        for _ in range(600):
            settings, sorts = rng.randint(1, 3), rng.randint(1, 6)
            kind = drawn_kind(rng, settings, sorts)
            if rng.random() < 0.7:
                kind = ending_kind(rng, settings, sorts)
            train, other = drawn_train(rng, kind, 2), drawn_train(rng, kind, 2)
            pairs = len(slow_pairs(kind, train, kind, other))
            if pairs > 12:
                continue
            wanted = slow_ahead(kind, train, other)
            self.assertEqual(most_ahead(kind, train, other), wanted)
            found[wanted] = found.get(wanted, 0) + 1
            if pairs <= 6:
                best = max(ahead_on(kind, train, other, road) for road in rows_up_to(len(kind[0]), pairs - 1))
                self.assertTrue(wanted is None or wanted == best)
        self.assertTrue(all(found.get(many, 0) > 5 for many in (None, 0, 1, 2)), found)

    def test_gains_that_come_late(self):
        # The other train changes so many latches first, and then the train one in each ring of two.
        for many in range(5):
            kind = tuple(((1, sort + 1), (0, sort + 1)) for sort in range(many)) + (((0, many), (1, many)),)
            self.assertEqual(most_ahead(kind, (0,), ()), many)
            self.assertEqual(most_ahead(kind, (), (0,)), 0)
            turns = kind[:-1] + (((1, many), (0, many)),)
            self.assertIsNone(most_ahead(turns, (0,), ()))
            self.assertEqual(most_ahead(turns, (), (0,)), 0)
            self.assertEqual(most_ahead(turns, (0,), (many,)), 0)
            self.assertEqual(most_ahead(turns, (many,), (0,)), 0)

    def test_beside_nothing(self):
        # Beside the train without walkers it is the greatest number of changed latches.
        rng = random.Random(65)
        for _ in range(100):
            kind = drawn_kind(rng, rng.randint(1, 3), rng.randint(1, 4))
            train = drawn_train(rng, kind, 2)
            self.assertEqual(most_ahead(kind, train, ()), most_changed(kind, train))
            self.assertEqual(most_ahead(kind, (), train), 0)
            self.assertEqual(most_ahead(kind, train, train), 0)

    def test_many_latches(self):
        rng = random.Random(66)
        for _ in range(60):
            kind = drawn_kind(rng, 2, rng.randint(1, 4))
            train, other = drawn_train(rng, kind, 2), drawn_train(rng, kind, 2)
            most = most_ahead(kind, train, other)
            if most is not None:
                self.assertTrue(all(ahead_on(kind, train, other, road) <= most for road in all_rows(2, 8)))
                gap = changed_at(kind, train, "most", 200) - changed_at(kind, other, "most", 200)
                self.assertLessEqual(gap, most)

    def test_nothing_one_setting_sixty_walkers(self):
        one = (((0, 1),), ((0, 0),))
        for kind, train, other in ((U, (), ()), (Z, (), ()), (one, (0, 1), (1,) * 60), (U, (1,) * 60, ())):
            self.assertEqual(most_ahead(kind, train, other), 0)
        six = tuple(tuple(((setting + 1) % 6, (sort + 1) % 6) for setting in range(6)) for sort in range(6))
        self.assertIsNone(most_ahead(six, (0,) * 59, (0,) * 60))
        self.assertEqual(most_ahead(six, (0,) * 60, (0,) * 59), 0)

    def test_limit(self):
        pairs = len(slow_pairs(KIND_200, TRAIN_200, KIND_200, ()))
        self.assertEqual(pairs, 200)
        self.assertEqual(most_ahead(KIND_200, TRAIN_200, ()), most_changed(KIND_200, TRAIN_200))
        self.assertEqual(most_ahead(KIND_200, TRAIN_200, TRAIN_200), 0)
        for kind, train in ((KIND_201, TRAIN_201), (KIND_1001, TRAIN_1001)):
            for case in ((train, ()), ((), train), (train, train)):
                self.assertEqual(raised(lambda: most_ahead(kind, *case)), "TooMany(200)")
            self.assertEqual(raised(lambda: most_ahead(kind, train, (5,))), "InvalidTrain")

    def test_limit_is_that_of_pairs(self):
        rng = random.Random(67)
        met = {True: 0, False: 0}
        while min(met.values()) < 5:
            kind = drawn_kind(rng, rng.randint(2, 3), rng.randint(2, 3))
            train, other = (tuple(rng.randrange(len(kind)) for _ in range(4)) for _ in range(2))
            alone = max(len(slow_pairs(kind, first, kind, ())) for first in (train, other))
            pairs = len(slow_pairs(kind, train, kind, other))
            if alone <= 100 and pairs > 100:
                met[pairs > 200] += 1
                self.assertIs(raised(lambda: most_ahead(kind, train, other)) == "TooMany(200)", pairs > 200)

    def test_wrong_arguments(self):
        check_wrong(self, most_ahead, (U, (0, 1), (1,)), [wrong("kind"), wrong("train"), wrong("train")])
