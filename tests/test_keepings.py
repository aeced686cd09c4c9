"""Trains that keep [18], [57], and what [3] says of them."""

import random
import unittest

from latchroads.keepings import does_keep, keeps_up_to, losing_sorts, never_left, two_left_alike
from tests.helper import (KIND_1000, KIND_1001, TRAIN_1000, TRAIN_1001, U, all_rows, check_wrong, drawn_kind,
                          drawn_train, one_to_one_kind, raised, slow_coming, slow_left, told, wrong)

Z = (((0, 0), (1, 1)), ((0, 0), (0, 0)))


def slow_loss(kind, train, most):
    """The first two roads left alike, and the least road never left, of at most so many latches, or None."""
    for latches in range(most + 1):
        firsts = {}
        pairs = []
        for road in all_rows(len(kind[0]), latches):
            left = slow_left(kind, train, road)
            if left in firsts:
                pairs += [(first, road) for first in firsts[left]]
            firsts.setdefault(left, []).append(road)
        if pairs:
            never = [road for road in all_rows(len(kind[0]), latches) if road not in firsts]
            return min(pairs), never[0]
    return None


class KeepingsTest(unittest.TestCase):

    def test_example(self):
        told(self, """
            >>> Z = (((0, 0), (1, 1)), ((0, 0), (0, 0)))
            >>> [losing_sorts(Z), losing_sorts(U), does_keep(U, (0, 1)), keeps_up_to(Z, (0,)), two_left_alike(Z, (0,)), never_left(Z, (0,)), keeps_up_to(Z, (1,))]
            [(1,), (), True, 1, ((1, 0), (1, 1)), (1, 1), 0]
            """, dict(U=U, losing_sorts=losing_sorts, does_keep=does_keep, keeps_up_to=keeps_up_to,
                      two_left_alike=two_left_alike, never_left=never_left))

    def test_losing_sorts(self):
        rng = random.Random(57)
        found = set()
        for _ in range(200):
            settings, sorts = rng.randint(1, 6), rng.randint(1, 6)
            rows = zip(drawn_kind(rng, settings, sorts), one_to_one_kind(rng, settings, sorts))
            kind = tuple(rng.choice(both) for both in rows)
            wanted = tuple(sort for sort in range(sorts) if any(
                kind[sort][one][0] == kind[sort][two][0] for two in range(settings) for one in range(two)))
            self.assertEqual(losing_sorts(kind), wanted)
            found.add(wanted)
        self.assertGreater(len(found), 20)

    def test_beside_all_roads(self):
        rng = random.Random(58)
        found = {}
        for _ in range(900):
            settings, sorts = rng.randint(1, 4), rng.randint(1, 4)
            rows = zip(drawn_kind(rng, settings, sorts), one_to_one_kind(rng, settings, sorts))
            kind = tuple(row if rng.random() < 0.3 else other for row, other in rows)
            train = drawn_train(rng, kind, 3)
            # What is left alike at all is so by as many latches as trains come, at most.
            most = len(slow_coming(kind, train))
            if settings ** most > 2000:
                continue
            loss = slow_loss(kind, train, most)
            upto = None if loss is None else len(loss[0][0]) - 1
            found[upto] = found.get(upto, 0) + 1
            self.assertIs(does_keep(kind, train), loss is None)
            self.assertEqual(keeps_up_to(kind, train), upto)
            self.assertEqual(two_left_alike(kind, train), None if loss is None else loss[0])
            self.assertEqual(never_left(kind, train), None if loss is None else loss[1])
        for upto in (None, 0, 1, 2):
            self.assertGreater(found.get(upto, 0), 8)

    def test_losses_behind_some_latches(self):
        rng = random.Random(59)
        for _ in range(60):
            # A way of drawn one-to-one sorts, at the end of which the last sort loses.
            settings = rng.choice((2, 2, 3))
            kind = list(one_to_one_kind(rng, settings, 5)) + [tuple((rng.randrange(settings), 0)
                                                                    for _ in range(settings))]
            kind = [tuple((left, rng.choice((sort, min(sort + 1, 5)))) for left, _ in row)
                    for sort, row in enumerate(kind)]
            kind[5] = tuple((0 if at < 2 else left, out) for at, (left, out) in enumerate(kind[5]))
            kind = tuple(kind)
            train = (rng.choice((0, 1, 2)),)
            loss = slow_loss(kind, train, 8 if settings == 2 else 6)
            if loss is not None:
                self.assertEqual(keeps_up_to(kind, train), len(loss[1]) - 1)
                self.assertEqual(two_left_alike(kind, train), loss[0])
                self.assertEqual(never_left(kind, train), loss[1])
                self.assertIs(does_keep(kind, train), False)

    def test_as_many_latches(self):
        # [3]: the least two roads left alike and the least never left have as many latches.
        rng = random.Random(60)
        for _ in range(300):
            kind = drawn_kind(rng, None, rng.randint(1, 3))
            train = drawn_train(rng, kind, 4)
            two, never = two_left_alike(kind, train), never_left(kind, train)
            self.assertIs(two is None, never is None)
            self.assertIs(two is None, does_keep(kind, train))
            if two is not None:
                self.assertEqual([len(two[0]), len(two[1])], [len(never)] * 2)
                self.assertLess(two[0], two[1])
                self.assertEqual(slow_left(kind, train, two[0]), slow_left(kind, train, two[1]))
                self.assertEqual(keeps_up_to(kind, train), len(never) - 1)

    def test_first_pair_in_order(self):
        kind = (((2, 0), (0, 0), (2, 0), (0, 0), (0, 0)),)
        self.assertEqual(two_left_alike(kind, (0,)), ((0,), (2,)))
        kind = (((2, 0), (0, 0), (1, 0), (0, 0), (1, 0)),)
        self.assertEqual(two_left_alike(kind, (0,)), ((1,), (3,)))
        self.assertEqual(never_left(kind, (0,)), (3,))

    def test_least_road_never_left_is_told_by_what_is_left(self):
        # Roads that begin with 1 are left as ones that begin with 0, and these lead to the loss.
        kind = (((1, 0), (0, 1)), ((0, 1), (0, 1)))
        self.assertEqual(two_left_alike(kind, (0,)), ((1, 0), (1, 1)))
        self.assertEqual(never_left(kind, (0,)), (0, 1))
        kind = (((1, 1), (0, 0)), ((1, 1), (1, 1)))
        self.assertEqual(two_left_alike(kind, (0,)), ((0, 0), (0, 1)))
        self.assertEqual(never_left(kind, (0,)), (1, 0))

    def test_nothing_one_setting_six_of_each(self):
        for kind, train in ((Z, ()), ((((0, 0),),), (0,) * 60), (U, (0, 1) * 2)):
            self.assertIs(does_keep(kind, train), True)
            self.assertEqual([keeps_up_to(kind, train), two_left_alike(kind, train), never_left(kind, train)],
                             [None, None, None])
        self.assertEqual(losing_sorts((((0, 0),),)), ())
        six = tuple(tuple(((setting + 1) % 6, min(sort + 1, 5)) for setting in range(6)) for sort in range(5))
        six += (tuple((min(setting, 4), 5) for setting in range(6)),)
        self.assertEqual([losing_sorts(six), keeps_up_to(six, (0,)), keeps_up_to(six, (0, 1) * 30)], [(5,), 5, 4])
        self.assertEqual(two_left_alike(six, (0,)), ((0,) * 5 + (4,), (0,) * 5 + (5,)))
        self.assertEqual(never_left(six, (0,)), (0,) * 5 + (5,))
        self.assertEqual(never_left(six, (0, 1)), (0,) * 4 + (5,))

    def test_limit(self):
        for function in (keeps_up_to, two_left_alike, never_left):
            self.assertEqual(raised(lambda: function(KIND_1001, TRAIN_1001)), "TooMany(1000)")
            self.assertEqual(raised(lambda: function(KIND_1001, TRAIN_1001 + (4,))), "InvalidTrain")
            self.assertNotEqual(raised(lambda: function(KIND_1000, TRAIN_1000)), "TooMany(1000)")
        self.assertIs(does_keep(KIND_1001, TRAIN_1001), False)
        self.assertIs(does_keep(KIND_1001, (2,) * 60), False)
        # Sixty walkers of which very many trains come, and which keep.
        rng = random.Random(61)
        kind = one_to_one_kind(rng, 6, 6)
        self.assertIs(does_keep(kind, (0, 1, 2, 3, 4, 5) * 10), True)
        self.assertEqual(raised(lambda: keeps_up_to(kind, (0, 1, 2, 3, 4, 5) * 10)), "TooMany(1000)")

    def test_wrong_arguments(self):
        check_wrong(self, losing_sorts, (U,), [wrong("kind")])
        for function in (does_keep, keeps_up_to, two_left_alike, never_left):
            check_wrong(self, function, (U, (0, 1)), [wrong("kind"), wrong("train")])
