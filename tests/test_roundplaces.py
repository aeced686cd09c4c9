"""Rounds that are gone through [56]."""

import random
import unittest

from latchroads.roundplaces import rounds_seen, sendings_to
from tests.helper import (U, all_rows, check_new_list, check_wrong, drawn_kind, drawn_road, drawn_train,
                          one_to_one_kind, raised, slow_left, slow_rounds, slow_sorts, told, wrong)

# The sort 2 leaves two settings in one; it comes of 3, too.
SOME_LOSE = (((1, 1), (0, 0)), ((0, 1), (1, 1)), ((0, 0), (0, 2)), ((1, 0), (0, 2)))


class RoundPlacesTest(unittest.TestCase):

    def test_example(self):
        told(self, """
            >>> [rounds_seen(U, (0,), 3), rounds_seen(U, (0, 0), 2), rounds_seen(U, (1,), 1), sendings_to(U, (0,), (0, 0, 0), (1, 0, 1)), sendings_to(U, (1,), (0,), (1,))]
            [[(8, 1)], [(2, 2)], [(1, 2)], 5, None]
            """, dict(U=U, rounds_seen=rounds_seen, sendings_to=sendings_to))

    def test_rounds_beside_all_roads(self):
        rng = random.Random(56)
        lengths = set()
        for _ in range(150):
            settings = rng.randint(1, 6)
            kind = one_to_one_kind(rng, settings, rng.randint(1, 6))
            train = drawn_train(rng, kind, 3)
            for latches in range({1: 4, 2: 6, 3: 4, 4: 3, 5: 2, 6: 2}[settings] + 1):
                rounds = slow_rounds(kind, train, latches)
                wanted = sorted((many, rounds.count(many)) for many in set(rounds))
                self.assertEqual(rounds_seen(kind, train, latches), wanted)
                lengths.add(len(wanted))
        self.assertLessEqual({1, 2, 3, 4}, lengths)

    def test_sendings_beside_slow_reading(self):
        rng = random.Random(57)
        found = set()
        for _ in range(200):
            settings = rng.randint(1, 6)
            kind = one_to_one_kind(rng, settings, rng.randint(1, 6))
            train, road = drawn_train(rng, kind, 3), drawn_road(rng, kind, 3)
            standings = [road]
            while slow_left(kind, train, standings[-1]) != road:
                standings.append(slow_left(kind, train, standings[-1]))
            for other in all_rows(settings, len(road))[:40] + standings[-3:]:
                wanted = standings.index(other) if other in standings else None
                self.assertEqual(sendings_to(kind, train, road, other), wanted)
                found.add(None if wanted is None else min(wanted, 3))
        self.assertEqual(found, {None, 0, 1, 2, 3})

    def test_only_sorts_that_come_must_be_one_to_one(self):
        rng = random.Random(58)
        met = {True: 0, False: 0}
        for _ in range(400):
            rows = zip(drawn_kind(rng, 3, 5), one_to_one_kind(rng, 3, 5))
            kind = tuple(row if rng.random() < 0.4 else other for row, other in rows)
            train = drawn_train(rng, kind, 2)
            fit = all(len({left for left, _ in kind[sort]}) == 3 for sort in slow_sorts(kind, train))
            met[fit and any(len({left for left, _ in row}) < 3 for row in kind)] += 1
            self.assertIs(raised(lambda: rounds_seen(kind, train, 1)) == "NotOneToOne", not fit)
            self.assertIs(raised(lambda: sendings_to(kind, train, (1,), (2,))) == "NotOneToOne", not fit)
        self.assertGreater(met[True], 20)

    def test_limit(self):
        kept = {2: 12, 3: 7, 4: 6, 5: 5, 6: 4}
        for settings, most in kept.items():
            kind = (tuple(((setting + 1) % settings, setting % 2) for setting in range(settings)),
                    tuple((setting, 1) for setting in range(settings)))
            self.assertEqual(sum(many * times for many, times in rounds_seen(kind, (0,), most)), settings ** most)
            self.assertEqual(sendings_to(kind, (0,), (0,) * most, (0,) * most), 0)
            for latches in (most + 1, 60):
                road = (0,) * latches
                self.assertEqual(raised(lambda: rounds_seen(kind, (0,), latches)), "TooMany(4096)")
                self.assertEqual(raised(lambda: sendings_to(kind, (0,), road, road)), "TooMany(4096)")
                self.assertEqual(raised(lambda: sendings_to(kind, (1,), road, road[1:] + (1,))), "TooMany(4096)")
                self.assertEqual(raised(lambda: sendings_to(kind, (0,), road, road[1:])), "InvalidRoad")
            self.assertEqual(raised(lambda: rounds_seen(kind, (0,), 61)), "InvalidNumber")
        self.assertEqual(rounds_seen(U, (0,), 12), [(4096, 1)])
        self.assertEqual(sendings_to(U, (0,), (0,) * 12, (1,) * 12), 4095)
        self.assertEqual(sendings_to(U, (0,), (1,) * 12, (0,) * 12), 1)

    def test_one_setting_and_nothing(self):
        one = (((0, 1),), ((0, 0),))
        for latches in (0, 1, 13, 60):
            self.assertEqual(rounds_seen(one, (0, 1), latches), [(1, 1)])
            self.assertEqual(sendings_to(one, (0,), (0,) * latches, (0,) * latches), 0)
        self.assertEqual([rounds_seen(U, (), 0), rounds_seen(U, (0,), 0)], [[(1, 1)], [(1, 1)]])
        self.assertEqual([rounds_seen(U, (), 5), rounds_seen(U, (1,), 12)], [[(1, 32)], [(1, 4096)]])
        self.assertEqual([sendings_to(U, (), (), ()), sendings_to(U, (), (0,), (1,))], [0, None])

    def test_sixty_walkers_six_of_each(self):
        six = tuple(tuple(((setting + sort) % 6, (sort + setting) % 6) for setting in range(6)) for sort in range(6))
        train = tuple(walker % 6 for walker in range(60))
        for latches in range(3):
            rounds = slow_rounds(six, train, latches)
            self.assertEqual(rounds_seen(six, train, latches),
                             sorted((many, rounds.count(many)) for many in set(rounds)))

    def test_not_one_to_one_stands_behind_the_train(self):
        for train in ((2,), (0, 3)):
            for latches in (0, 60, -1, None):
                self.assertEqual(raised(lambda: rounds_seen(SOME_LOSE, train, latches)), "NotOneToOne")
                self.assertEqual(raised(lambda: rounds_seen(SOME_LOSE, train + (4,), latches)), "InvalidTrain")
            for road, other in (((), ()), (None, (0,)), ((0,), None), ((0,) * 13, (0,) * 13)):
                self.assertEqual(raised(lambda: sendings_to(SOME_LOSE, train, road, other)), "NotOneToOne")
        self.assertEqual(rounds_seen(SOME_LOSE, (0, 1), 3), [(8, 1)])

    def test_wrong_arguments(self):
        check_wrong(self, rounds_seen, (U, (0, 1), 4), [wrong("kind"), wrong("train"), wrong("number", 0, 60)])
        name, values = wrong("road")
        check_wrong(self, sendings_to, (U, (0, 1), (0, 1), (1, 1)),
                    [wrong("kind"), wrong("train"), (name, values), (name, values + [(), (0,), (1, 1, 1), (0,) * 60])])
        check_new_list(self, rounds_seen, U, (0, 1), 2)
