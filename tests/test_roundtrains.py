"""How many trains bring roads of all lengths round in one [17], [54]."""

import random
import unittest

from latchroads.kindtexts import read_kind
from latchroads.onerounds import short_depth
from latchroads.roundtrains import count_round_trains, first_round_train, least_round_train
from tests.helper import (U, all_rows, check_wrong, drawn_kind, raised, slow_rounds, slow_short, slow_sum, told,
                          turning_kind, wrong)


def round_trains(kind, walkers):
    """All trains of so many walkers that bring roads of all lengths round in one, by a slow reading."""
    return [train for train in all_rows(len(kind), walkers) if slow_short(kind, train) is None]


class RoundTrainsTest(unittest.TestCase):

    def test_example(self):
        told(self, """
            >>> Q = (((1, 0), (2, 0), (0, 1)), ((0, 1), (1, 1), (2, 1)))
            >>> [count_round_trains(U, 3), least_round_train(U), first_round_train(U, 3), least_round_train((((0, 0), (1, 0)),)), count_round_trains(Q, 60) > 10 ** 17]
            [4, (0,), (0, 0, 0), None, True]
            """, dict(U=U, count_round_trains=count_round_trains, least_round_train=least_round_train,
                      first_round_train=first_round_train))

    def test_beside_all_trains(self):
        rng = random.Random(54)
        leasts = set()
        for _ in range(80):
            settings = rng.randint(1, 6)
            kind = turning_kind(rng, settings, rng.randint(1, 2 if settings > 3 else 3))
            found = [round_trains(kind, walkers) for walkers in range(5)]
            for walkers in range(5):
                self.assertEqual(count_round_trains(kind, walkers), len(found[walkers]))
                first = found[walkers][0] if found[walkers] else None
                self.assertEqual(first_round_train(kind, walkers), first)
            least = least_round_train(kind)
            lesser = [train for trains in found for train in trains]
            if lesser:
                self.assertEqual(least, lesser[0])
            elif least is not None:
                self.assertGreater(len(least), 4)
                self.assertIsNone(slow_short(kind, least))
            leasts.add(least)
        self.assertLessEqual({None, (), (0,), (1,)}, leasts)

    def test_they_do_bring_round(self):
        rng = random.Random(55)
        for _ in range(40):
            kind = turning_kind(rng, rng.randint(2, 3), rng.randint(1, 3))
            trains = all_rows(len(kind), 2)
            found = [train for train in trains
                     if all(len(slow_rounds(kind, train, latches)) == 1 for latches in range(5))]
            wanted = [train for train in found if short_depth(kind, train) is None]
            self.assertEqual(count_round_trains(kind, 2), len(wanted))
            self.assertEqual(first_round_train(kind, 2), wanted[0] if wanted else None)

    def test_many_walkers(self):
        rng = random.Random(56)
        for _ in range(12):
            settings = rng.choice((2, 3, 4))
            kind = turning_kind(rng, settings, 2)
            for walkers in (7, 30, 59, 60):
                counts, ways = 0, 1
                firsts = []
                for ones in range(walkers + 1):
                    if slow_short(kind, (0,) * (walkers - ones) + (1,) * ones) is None:
                        counts += ways
                        firsts.append((0,) * (walkers - ones) + (1,) * ones)
                    ways = ways * (walkers - ones) // (ones + 1)
                self.assertEqual(count_round_trains(kind, walkers), counts)
                # Counts alone tell, so the first train has its walkers in ascending order.
                self.assertEqual(first_round_train(kind, walkers), min(firsts) if firsts else None)

    def test_least_of_many_walkers(self):
        for text, wanted in (("2a3a4b5b0a1b 1b2b3a4b5a0b", (0, 0, 0, 1)),
                             ("2a3b4b5a0a1b 3b4a5b0a1a2a", (0, 1)),
                             ("2c3c4c5a0c1b 5b0a1c2c3b4a 3b4a5c0c1b2c", (0, 0, 0, 1, 2, 2))):
            kind = read_kind(text)
            trains = [train for walkers in range(7) for train in all_rows(len(kind), walkers)]
            found = [train for train in trains if short_depth(kind, train) is None]
            self.assertEqual(found[0] if found else None, wanted)
            self.assertEqual(least_round_train(kind), wanted)
            for walkers in range(7):
                some = [train for train in found if len(train) == walkers]
                self.assertEqual(count_round_trains(kind, walkers), len(some))
                self.assertEqual(first_round_train(kind, walkers), some[0] if some else None)

    def test_least_of_drawn_kinds(self):
        rng = random.Random(57)
        lengths = set()
        for _ in range(300):
            settings = rng.randint(2, 6)
            kind = turning_kind(rng, settings, rng.randint(2, 6 if settings == 2 else 3))
            least = least_round_train(kind)
            if least is None:
                self.assertEqual([first_round_train(kind, walkers) for walkers in range(9)], [None] * 9)
                continue
            self.assertIsNone(slow_short(kind, least))
            self.assertEqual(first_round_train(kind, len(least)), least)
            for walkers in range(len(least)):
                self.assertIsNone(first_round_train(kind, walkers))
                self.assertEqual(count_round_trains(kind, walkers), 0)
            lengths.add(len(least))
        self.assertLessEqual({1, 2, 3}, lengths)

    def test_no_walkers_and_one_setting(self):
        self.assertEqual([count_round_trains(U, 0), first_round_train(U, 0)], [0, None])
        for sorts in range(1, 7):
            kind = tuple(((0, (sort + 1) % sorts),) for sort in range(sorts))
            self.assertEqual([count_round_trains(kind, walkers) for walkers in (0, 1, 60)], [1, sorts, sorts ** 60])
            self.assertEqual([least_round_train(kind), first_round_train(kind, 60)], [(), (0,) * 60])
            self.assertEqual(first_round_train(kind, 0), ())

    def test_limit(self):
        kept = {1: 6, 2: 6, 3: 6, 4: 4, 5: 4, 6: 3}
        for settings in range(1, 7):
            for sorts in range(1, 7):
                kind = tuple(tuple(((setting + 1) % settings, (sort + (setting == 0)) % sorts)
                                   for setting in range(settings)) for sort in range(sorts))
                answers = [raised(lambda: count_round_trains(kind, 60)), raised(lambda: least_round_train(kind)),
                           raised(lambda: first_round_train(kind, 60))]
                if sorts > kept[settings]:
                    self.assertEqual(answers, ["TooMany(729)"] * 3)
                    self.assertEqual(raised(lambda: count_round_trains(kind, 61)), "InvalidNumber")
                    self.assertEqual(raised(lambda: first_round_train(kind, None)), "InvalidNumber")
                else:
                    self.assertNotIn("TooMany(729)", answers)

    def test_six_sorts_of_three_settings(self):
        rng = random.Random(58)
        for _ in range(3):
            kind = turning_kind(rng, 3, 6)
            many = [sum(1 for train in all_rows(6, walkers) if short_depth(kind, train) is None)
                    for walkers in range(4)]
            self.assertEqual([count_round_trains(kind, walkers) for walkers in range(4)], many)

    def test_counts_take_in_sums_at_all_depths(self):
        # The sum at the depth 0 is well for one walker of the sort 0, that at the depth 1 is not.
        kind = (((1, 1), (0, 1)), ((1, 0), (0, 0)))
        self.assertEqual([slow_sum(kind, (0,), depth) for depth in range(3)], [1, 0, 0])
        self.assertEqual([count_round_trains(kind, 1), least_round_train(kind)], [0, None])

    def test_not_turning_stands_behind_the_kind(self):
        rng = random.Random(59)
        still = (((1, 0), (0, 0)), ((0, 1), (0, 1)))
        for kind in (still, still[::-1], drawn_kind(rng, 6, 5)[:5] + (((0, 0),) * 6,)):
            self.assertEqual(raised(lambda: least_round_train(kind)), "NotTurning")
            for walkers in (0, 60, -1, 61, None):
                self.assertEqual(raised(lambda: count_round_trains(kind, walkers)), "NotTurning")
                self.assertEqual(raised(lambda: first_round_train(kind, walkers)), "NotTurning")

    def test_wrong_arguments(self):
        check_wrong(self, count_round_trains, (U, 3), [wrong("kind"), wrong("number", 0, 60)])
        check_wrong(self, first_round_train, (U, 3), [wrong("kind"), wrong("number", 0, 60)])
        check_wrong(self, least_round_train, (U,), [wrong("kind")])
