"""Trains that bring roads round in one [17], [53], and what [3] says of them."""

import random
import unittest

from latchroads.onerounds import rounds_told, short_depth
from tests.helper import (U, check_wrong, drawn_train, in_common, raised, slow_rounds, slow_short, slow_sum, told,
                          turning_kind, wrong)

SOME_TURN = (((1, 1), (0, 0)), ((0, 1), (1, 1)), ((0, 2), (0, 2)), ((1, 0), (0, 2)))


class OneRoundsTest(unittest.TestCase):

    def test_example(self):
        told(self, """
            >>> [short_depth(U, (0,)), short_depth(U, (0, 0)), rounds_told(U, (0,), 5), rounds_told(U, (0, 0), 1), rounds_told(U, (0, 0), 2), rounds_told(U, (0, 0), 0)]
            [None, 0, (1, 32), (2, 1), None, (1, 1)]
            """, dict(U=U, short_depth=short_depth, rounds_told=rounds_told))

    def test_beside_all_roads_sent_again(self):
        rng = random.Random(53)
        found = set()
        for _ in range(400):
            settings = rng.randint(1, 6)
            kind = turning_kind(rng, settings, rng.randint(1, 3))
            train = drawn_train(rng, kind, 3)
            short = short_depth(kind, train)
            most = {1: 5, 2: 6, 3: 4, 4: 3, 5: 2, 6: 2}[settings]
            for latches in range(most + 1):
                rounds = slow_rounds(kind, train, latches)
                # [17]: all roads are brought through in one round just up to the short depth.
                self.assertIs(len(rounds) == 1, short is None or latches <= short)
                answer = rounds_told(kind, train, latches)
                if short is not None and latches > short + 1:
                    self.assertIsNone(answer)
                    continue
                self.assertEqual(sum(rounds), settings ** latches)
                self.assertEqual(rounds, [answer[1]] * answer[0])
                found.add((settings, latches, answer[0]))
        self.assertLessEqual({(2, 1, 2), (2, 2, 2), (2, 6, 1), (3, 1, 3), (3, 2, 3), (4, 1, 2), (4, 1, 4), (4, 2, 2),
                              (5, 1, 5), (6, 1, 2), (6, 1, 3), (6, 1, 6)}, found)

    def test_short_depth_beside_sums(self):
        rng = random.Random(54)
        found = set()
        for _ in range(300):
            kind = turning_kind(rng, rng.randint(1, 4), rng.randint(1, 3))
            train = drawn_train(rng, kind, 5)
            short = slow_short(kind, train)
            self.assertEqual(short_depth(kind, train), short)
            found.add(short)
        self.assertLessEqual({None, 0, 1, 2, 3}, found)

    def test_many_latches(self):
        # The sort 0 goes on so that the sum at the depth 3 alone, and what follows it, is short.
        kind = (((1, 1), (0, 0)), ((1, 2), (0, 1)), ((1, 3), (0, 2)), ((0, 3), (1, 3)))
        for train in ((0,), (0, 1), (0, 2, 2), (0, 1, 2)):
            short = slow_short(kind, train)
            self.assertEqual(short_depth(kind, train), short)
            self.assertEqual(rounds_told(kind, train, short), (1, 2 ** short))
            self.assertEqual(rounds_told(kind, train, short + 1), (2, 2 ** short))
            self.assertIsNone(rounds_told(kind, train, short + 2))
            self.assertIsNone(rounds_told(kind, train, 60))
        self.assertEqual(rounds_told(U, (0,), 60), (1, 2 ** 60))
        self.assertEqual(rounds_told(U, (0,) * 59 + (1,), 60), (1, 2 ** 60))
        self.assertEqual(rounds_told(U, (0,), 0), (1, 1))

    def test_a_common_divisor_of_four(self):
        # At the depth 0 all is well, at the depth 1 the sum is 2.
        kind = (((1, 1), (2, 1), (3, 0), (0, 0)), ((0, 1), (1, 1), (2, 1), (3, 1)))
        self.assertEqual(slow_sum(kind, (0,), 1), 2)
        self.assertEqual(short_depth(kind, (0,)), 1)
        self.assertEqual([rounds_told(kind, (0,), latches) for latches in range(4)], [(1, 1), (1, 4), (2, 8), None])
        self.assertEqual([rounds_told(kind, (0, 0), latches) for latches in range(3)], [(1, 1), (2, 2), None])
        self.assertEqual([rounds_told(kind, (0,) * 4, latches) for latches in range(3)], [(1, 1), (4, 1), None])

    def test_taken_some_times_as_one(self):
        # [3]: a train taken j times as one brings round just if it does itself and j has no common divisor.
        rng = random.Random(55)
        met = set()
        for _ in range(200):
            settings = rng.randint(2, 6)
            kind = turning_kind(rng, settings, rng.randint(1, 3))
            if rng.random() < 0.3:
                # One setting alone goes on as the sort that turns.
                kind = ((((1 % settings), 0),) + tuple(((at + 1) % settings, 1) for at in range(1, settings)),
                        tuple((at, 1) for at in range(settings)))
            train = drawn_train(rng, kind, 4)
            for times in range(1, 13):
                wanted = short_depth(kind, train) is None and not in_common(times, len(kind[0]))
                self.assertIs(short_depth(kind, train * times) is None, wanted)
                met.add((len(kind[0]), times, wanted))
        self.assertIn((6, 5, True), met)

    def test_nothing_goes_one_setting_one_sort_six_of_each(self):
        self.assertEqual([short_depth(U, ()), rounds_told(U, (), 1), rounds_told(U, (), 2)], [0, (2, 1), None])
        for kind in ((((0, 0),),), (((0, 1),), ((0, 0),))):
            for train in ((), (0,), (0,) * 60):
                self.assertIsNone(short_depth(kind, train))
                for latches in (0, 1, 60):
                    self.assertEqual(rounds_told(kind, train, latches), (1, 1))
        one = (((1, 0), (2, 0), (0, 0)),)
        self.assertEqual([short_depth(one, (0,)), rounds_told(one, (0,), 2)], [1, (3, 3)])
        six = tuple(tuple(((setting + sort) % 6, (sort + (setting == 0)) % 6) for setting in range(6))
                    for sort in range(6))
        for train in ((1,), (5,), (2,), (3, 4), (0,) * 60):
            self.assertEqual(short_depth(six, train), next(
                depth for depth in range(100) if in_common(slow_sum(six, train, depth), 6)))

    def test_not_turning_stands_behind_the_train(self):
        for train in ((3,), (0, 2)):
            self.assertEqual(raised(lambda: short_depth(SOME_TURN, train)), "NotTurning")
            for latches in (0, -1, None, 61):
                self.assertEqual(raised(lambda: rounds_told(SOME_TURN, train, latches)), "NotTurning")
                self.assertEqual(raised(lambda: rounds_told(SOME_TURN, train + (4,), latches)), "InvalidTrain")
        self.assertEqual(raised(lambda: short_depth(SOME_TURN, (3, 4))), "InvalidTrain")
        self.assertIsNone(short_depth(SOME_TURN, (0, 1)))

    def test_wrong_arguments(self):
        check_wrong(self, short_depth, (U, (0, 1)), [wrong("kind"), wrong("train")])
        check_wrong(self, rounds_told, (U, (0, 1), 4), [wrong("kind"), wrong("train"), wrong("number", 0, 60)])
