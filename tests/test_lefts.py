"""How many roads are left, and which latches are sure [19], [20], [59]."""

import random
import unittest

from latchroads.kindtexts import read_kind
from latchroads.lefts import count_left, sure_latches
from tests.helper import (KIND_1000, KIND_1001, TRAIN_1000, TRAIN_1001, U, Z, check_wrong, drawn_train, mixed_kind,
                          one_to_one_kind, raised, roads_left, slow_coming, slow_passed, told, wrong)

# Of roads of fewer than 25 latches there are 500 unlike lots, of longer roads no others.
LOTS_500 = read_kind("0d1c1b0d 0a2b1b1b 1a2b3d1d 2b3d1b3d"), (2, 0, 1, 1, 0, 2)
# Of roads of fewer than 12 latches there are 501.
LOTS_501 = read_kind("0b0c3d1e 0c3d3e0d 0a0a3d0c 2a1b1e1e 2b2e2b3d"), (2, 4, 4, 1)
# These keep, so each lot is that of one train: 500, and 501, of which the first comes again soon.
RING_500 = read_kind("2b1b0d 1d0e2a 0e2e1e 1c0a2d 1d2b0c"), (0, 4, 1, 3)
RING_501 = read_kind("1c4a2e0e3e 4a0a3a2d1b 3b0b1c4d2c 0d3e2d4e1b 2b1e0b4c3e"), (1, 1, 2, 2)
# 32 and 43 trains come of these, and just so many pairs of trains out of roads that are left alike.
PAIRS_1000 = read_kind("3a3b1b0b 3b0a3a1a"), (1, 0, 1, 1, 1)
PAIRS_1001 = read_kind("0a0e0a 0a1c1d 0a0a0c 2e2e2b 1e2e2a"), (3, 1, 1, 2, 4, 2, 0, 4, 1)
# These keep; just so many trains come of them.
KEEPS_1000 = read_kind("3d1c0c2e 3d1a2e0c 2d0b3a1e 0d3d1d2a 3c0d2a1e"), (4, 1, 0, 4, 0)
KEEPS_1001 = read_kind("2b1a0d 0d1d2a 2a1a0a 1d0d2c"), (0, 0, 0, 0, 1, 2)


def slow_lots(kind, train, number):
    """The unlike lots of roads of fewer latches than a number, but the empty one."""
    layer, found = {frozenset([train])}, set()
    for _ in range(number):
        found |= layer
        longer = set()
        for lot in layer:
            outs = [slow_passed(kind, first, (setting,)) for first in lot for setting in range(len(kind[0]))]
            longer |= {frozenset(out for left, out in outs if left == (setting,)) for setting in range(len(kind[0]))}
        layer = longer - {frozenset()}
        if layer <= found:
            break
    return found


def slow_pairs_alike(kind, train):
    """All pairs of trains as which a train comes out of two roads that it leaves alike."""
    met = [(train, train)]
    for one, two in met:
        ones = [slow_passed(kind, one, (setting,)) for setting in range(len(kind[0]))]
        twos = [slow_passed(kind, two, (setting,)) for setting in range(len(kind[0]))]
        met += {(out, other) for left, out in ones for other_left, other in twos if left == other_left} - set(met)
    return met


def slow_sure(kind, train, number):
    """The latches that all two roads that are left alike have in the same setting."""
    befores = {}
    for road, left in roads_left(kind, train, number):
        befores.setdefault(left, []).append(road)
    return tuple(at for at in range(number) if all(len({road[at] for road in roads}) == 1
                                                   for roads in befores.values()))


class LeftsTest(unittest.TestCase):

    def test_example(self):
        told(self, """
            >>> Z = (((0, 0), (1, 1)), ((0, 0), (0, 0)))
            >>> [[count_left(Z, (0,), number) for number in (0, 1, 2, 3, 10)], sure_latches(Z, (0,), 2), sure_latches(Z, (0,), 1), sure_latches(U, (0, 0), 4)]
            [[1, 2, 3, 5, 144], (0,), (0,), (0, 1, 2, 3)]
            """, dict(U=U, count_left=count_left, sure_latches=sure_latches))

    def test_beside_all_roads(self):
        rng = random.Random(59)
        counts = set()
        for _ in range(250):
            settings = rng.randint(1, 4)
            kind = mixed_kind(rng, settings, rng.randint(1, 4), rng.random())
            train = drawn_train(rng, kind, 3)
            pairs = len(slow_pairs_alike(kind, train))
            for number in range({1: 5, 2: 7, 3: 5, 4: 4}[settings] + 1):
                left = {left for _, left in roads_left(kind, train, number)}
                self.assertEqual(count_left(kind, train, number), len(left))
                counts.add(len(left))
                if pairs > 1000:
                    self.assertEqual(raised(lambda: sure_latches(kind, train, number)), "TooMany(1000)")
                    continue
                self.assertEqual(sure_latches(kind, train, number), slow_sure(kind, train, number))
        self.assertGreater(len(counts), 40)

    def test_sure_latches_beside_all_roads(self):
        rng = random.Random(60)
        sures = set()
        for _ in range(250):
            # Sorts that go on as the next ones lead by ways on which some latches are lost, others are not.
            kind = mixed_kind(rng, 2, 6, 0.4)
            kind = tuple(tuple((left, min(sort + rng.choice((1, 1, 2)), 5)) for left, _ in row)
                         for sort, row in enumerate(kind))
            train = (rng.randrange(3),) * rng.randint(1, 2)
            for number in range(7):
                sure = slow_sure(kind, train, number)
                self.assertEqual(sure_latches(kind, train, number), sure)
                sures.add(sure)
        self.assertGreater(len(sures), 20)
        # Sure latches stand at the begin, at the end, and in between.
        self.assertTrue(any(0 not in sure and sure for sure in sures))
        self.assertTrue(any(sure and sure != tuple(range(sure[0], sure[0] + len(sure))) for sure in sures))

    def test_many_latches(self):
        ways = [1, 2]
        while len(ways) <= 60:
            ways.append(ways[-1] + ways[-2])
        for number in range(61):
            self.assertEqual(count_left(Z, (0,), number), ways[number])
            self.assertEqual(count_left(U, (0, 0, 1), number), 2 ** number)
            self.assertEqual(sure_latches(U, (0, 0, 1), number), tuple(range(number)))
            self.assertEqual(sure_latches(Z, (1,), number), (1,) if number > 1 else ())
            self.assertEqual(count_left(Z, (1,), number), ways[max(number - 1, 0)])
            self.assertEqual(sure_latches(Z, (0,), number), (0,)[:number])

    def test_ways_that_end(self):
        # Behind two latches left alike in unlike settings no road goes on alike, so all but the last are sure.
        kind = (((0, 0), (0, 1), (1, 0)), ((2, 1), (2, 1), (2, 1)))
        for number in range(7):
            self.assertEqual(sure_latches(kind, (0,), number), slow_sure(kind, (0,), number))
        ends = (((0, 1), (0, 2), (1, 0), (2, 0)), ((0, 1), (1, 1), (0, 1), (1, 1)), ((2, 2), (3, 2), (2, 2), (3, 2)))
        for number in range(6):
            self.assertEqual(sure_latches(ends, (0,), number), slow_sure(ends, (0,), number))
            self.assertEqual(sure_latches(ends, (0,), number)[:number - 1 if number else 0],
                             slow_sure(ends, (0,), number)[:number - 1 if number else 0])

    def test_no_latches_no_walkers_one_setting(self):
        for kind, train in ((U, ()), (U, (0, 1)), (Z, (1,)), ((((0, 0),),), (0,))):
            self.assertEqual([count_left(kind, train, 0), sure_latches(kind, train, 0)], [1, ()])
        self.assertEqual([count_left(Z, (), 60), sure_latches(Z, (), 3)], [2 ** 60, (0, 1, 2)])
        one = (((0, 1),), ((0, 0),))
        self.assertEqual([count_left(one, (0, 1), 60), sure_latches(one, (0, 1), 60)], [1, tuple(range(60))])
        six = tuple(tuple((min(setting, 4), 5 - sort) for setting in range(6)) for sort in range(6))
        self.assertEqual([count_left(six, (0, 1), 60), sure_latches(six, (0, 1), 60)], [5 ** 60, ()])

    def test_limit_of_lots(self):
        self.assertEqual([len(slow_lots(*LOTS_500, 25)), len(slow_lots(*LOTS_501, 12))], [500, 501])
        self.assertEqual([len(slow_lots(*LOTS_500, 24)), len(slow_lots(*LOTS_500, 60))], [499, 500])
        self.assertLess(len(slow_lots(*LOTS_501, 11)), 501)
        for number in (24, 25, 26, 60):
            self.assertGreater(count_left(*LOTS_500, number), count_left(*LOTS_500, number - 1))
        self.assertGreater(count_left(*LOTS_501, 11), count_left(*LOTS_501, 10))
        self.assertEqual([raised(lambda: count_left(*LOTS_501, number)) for number in (12, 60)], ["TooMany(500)"] * 2)
        self.assertEqual(raised(lambda: count_left(*LOTS_501, 61)), "InvalidNumber")

    def test_lots_that_come_again_are_told_once(self):
        self.assertEqual([len(slow_coming(*RING_500)), len(slow_coming(*RING_501))], [500, 501])
        for number in (4, 11, 12, 13, 60):
            self.assertEqual(count_left(*RING_500, number), 3 ** number)
        self.assertEqual([len(slow_lots(*RING_501, 7)), len(slow_lots(*RING_501, 8))], [499, 501])
        self.assertEqual(count_left(*RING_501, 7), 5 ** 7)
        self.assertEqual([raised(lambda: count_left(*RING_501, number)) for number in (8, 60)], ["TooMany(500)"] * 2)

    def test_counts_beside_lots(self):
        # The number of roads left is that of the ways through lots, whatever the number of latches.
        for kind, train in (LOTS_500, LOTS_501):
            layer = {frozenset([train]): 1}
            for number in range(11):
                self.assertEqual(count_left(kind, train, number), sum(layer.values()))
                longer = {}
                for lot, many in layer.items():
                    outs = [slow_passed(kind, first, (setting,)) for first in lot for setting in range(len(kind[0]))]
                    for setting in range(len(kind[0])):
                        behind = frozenset(out for left, out in outs if left == (setting,))
                        if behind:
                            longer[behind] = longer.get(behind, 0) + many
                layer = longer

    def test_limit_of_trains(self):
        for function in (count_left, sure_latches):
            for number in (0, 1, 60):
                self.assertEqual(raised(lambda: function(KIND_1001, TRAIN_1001, number)), "TooMany(1000)")
            self.assertEqual(raised(lambda: function(KIND_1001, TRAIN_1001, 61)), "InvalidNumber")
            self.assertEqual(raised(lambda: function(KIND_1001, TRAIN_1001 + (4,), 61)), "InvalidTrain")
            self.assertEqual(raised(lambda: function(*KEEPS_1001, 1)), "TooMany(1000)")
        for number in range(4):
            left = {left for _, left in roads_left(KIND_1000, TRAIN_1000, number)}
            self.assertEqual(count_left(KIND_1000, TRAIN_1000, number), len(left))
        self.assertEqual([len(slow_coming(*KEEPS_1000)), len(slow_coming(*KEEPS_1001))], [1000, 1001])
        self.assertEqual(sure_latches(*KEEPS_1000, 60), tuple(range(60)))
        self.assertEqual(count_left(*KEEPS_1000, 5), 4 ** 5)
        self.assertEqual(raised(lambda: count_left(*KEEPS_1000, 60)), "TooMany(500)")

    def test_limit_of_pairs(self):
        self.assertEqual([len(slow_pairs_alike(*PAIRS_1000)), len(slow_pairs_alike(*PAIRS_1001))], [1000, 1001])
        for number in range(5):
            self.assertEqual(sure_latches(*PAIRS_1000, number), slow_sure(*PAIRS_1000, number))
            self.assertEqual(raised(lambda: sure_latches(*PAIRS_1001, number)), "TooMany(1000)")
            self.assertEqual(raised(lambda: count_left(*PAIRS_1001, number))[:8], "no error")

    def test_keeping_trains_have_as_many_pairs_as_trains(self):
        rng = random.Random(60)
        for _ in range(40):
            kind = one_to_one_kind(rng, rng.randint(2, 6), rng.randint(1, 3))
            train = drawn_train(rng, kind, 4)
            self.assertEqual(sure_latches(kind, train, 60), tuple(range(60)))
            self.assertEqual(count_left(kind, train, 60), len(kind[0]) ** 60)

    def test_wrong_arguments(self):
        for function in (count_left, sure_latches):
            check_wrong(self, function, (U, (0, 1), 4), [wrong("kind"), wrong("train"), wrong("number", 0, 60)])
