"""Endless roads that repeat [28], [69]."""

import random
import unittest

from latchroads.endless import is_endless, left_endless, shortest_pair
from latchroads.kindtexts import read_kind
from tests.helper import (D, ENDLESS_LIKES, FEW_1000, FEW_1001, SPOILT, STILL_1000, STILL_1001, U, check_wrong,
                          drawn_endless, drawn_kind, drawn_train, one_to_one_kind, raised, rows_up_to, slow_coming,
                          slow_left_long, slow_shortest, told, wrong, written_out)

LONG_HEADS = read_kind("1c0a 1d1b 0b1d 1b1c")
# Cases with how many settings head and ring of the shortest pair left have. Each walker makes a ring at most six times
# as long, so its number has at most one prime of 7 and 11, and no greater one: the least above 1000 is 1008.
LONG = [(LONG_HEADS, (3, 2, 3, 2, 2, 0), ((), (1, 0, 1, 0, 0, 1, 1, 1, 1, 1, 0, 0)), 1000, 768),
        (LONG_HEADS, (1, 3, 2, 3, 3, 0), ((), (0, 1, 0, 1, 0, 0, 1, 1, 1, 1, 1, 0)), 1001, 768),
        (read_kind("0b0b 0d0a 0c0d 0f1c 0a1a 1a1f"), (0, 5, 1), ((), (1, 0, 1, 0, 0, 1, 0, 1)), 0, 1000),
        (read_kind("0d0b 0e1e 0a1c 0b1a 0c1d"), (3, 4, 0),
         ((1, 1, 1, 0, 0, 0, 1, 0, 1, 0, 0), (1, 0, 0, 0, 1, 1, 0, 1)), 8, 1000),
        (read_kind("0e1c 1c0e 1d0d 1a0a 0b1b"), (2, 1, 0, 3), ((), (1, 0, 1, 1, 0, 1, 1)), 0, 1008)]


class EndlessTest(unittest.TestCase):

    def test_example(self):
        told(self, """
            >>> D = (((0, 0), (0, 1)), ((1, 0), (1, 1)))
            >>> [shortest_pair(U, ((1, 0, 1), (0, 1, 0, 1))), left_endless(U, (0,), ((), (1, 1, 0))), left_endless(U, (0,), ((), (1,))), left_endless(D, (0,), ((), (1, 1, 0)))]
            [((), (1, 0)), ((0, 0, 1), (1, 1, 0)), ((), (0,)), ((), (0, 1, 1))]
            """, dict(U=U, shortest_pair=shortest_pair, left_endless=left_endless))

    def test_is_endless(self):
        for value in [((), (0,)), ((0,), (1,)), ((0,) * 12, (1,) * 12), ((1, 0), (0, 1, 1)), ((), (0,) * 12)]:
            self.assertIs(is_endless(U, value), True, value)
        for value in SPOILT + ENDLESS_LIKES:
            self.assertIs(is_endless(U, value), False, value)
        six = (tuple((setting, 0) for setting in range(6)),)
        self.assertIs(is_endless(six, ((5,), (4,))), True)
        self.assertIs(is_endless(six, ((6,), (4,))), False)

    def test_shortest_pairs_of_all_few(self):
        # Of all pairs with few settings, those with the same settings at all indices have one shortest pair.
        rows = rows_up_to(2, 4)
        firsts = {}
        for head in rows:
            for ring in rows[1:]:
                firsts.setdefault(written_out((head, ring), 20), []).append((head, ring))
        for pairs in firsts.values():
            wanted = min(pairs, key=lambda pair: (len(pair[0]), len(pair[1])))
            for pair in pairs:
                self.assertEqual(shortest_pair(U, pair), wanted)

    def test_shortest_pairs_drawn(self):
        rng = random.Random(69)
        shorter = set()
        for _ in range(600):
            kind = drawn_kind(rng, rng.randint(1, 6), 1)
            endless = drawn_endless(rng, kind)
            found = shortest_pair(kind, endless)
            self.assertEqual(found, slow_shortest(endless))
            self.assertEqual(written_out(found, 200), written_out(endless, 200))
            shorter.add((len(endless[0]) - len(found[0]), len(endless[1]) - len(found[1])))
        self.assertGreater(len(shorter), 30)

    def test_head_and_ring_fall_away(self):
        self.assertEqual(shortest_pair(U, ((1,) * 12, (1,) * 12)), ((), (1,)))
        self.assertEqual(shortest_pair(U, ((1,) * 12, (0,) * 12)), ((1,) * 12, (0,)))
        self.assertEqual(shortest_pair(U, ((0,) + (1,) * 11, (1,) * 11)), ((0,), (1,)))
        self.assertEqual(shortest_pair(U, ((0, 1, 0, 1), (1, 0, 1) * 4)), ((0,), (1, 0, 1)))
        self.assertEqual(shortest_pair(U, ((1, 0, 1, 1, 0), (1, 1, 0) * 4)), ((), (1, 0, 1)))
        self.assertEqual(shortest_pair(U, ((), (0, 0, 1) * 3 + (0, 0, 0))), ((), (0, 0, 1) * 3 + (0, 0, 0)))

    def test_left_beside_many_latches(self):
        rng = random.Random(70)
        longer = 0
        for _ in range(1200):
            kind = rng.choice((drawn_kind, one_to_one_kind))(rng, rng.randint(1, 4), rng.randint(1, 4))
            train = drawn_train(rng, kind, 4)
            endless = drawn_endless(rng, kind)
            most = len(endless[0]) + len(endless[1]) * len(slow_coming(kind, train))
            if most > 1500:
                continue
            left = left_endless(kind, train, endless)
            self.assertEqual(left, slow_shortest(left))
            # Two roads that repeat so and are alike for so many latches are alike.
            latches = most + len(endless[1]) * len(left[1]) + len(left[0])
            if latches < 5000:
                self.assertEqual(written_out(left, latches), slow_left_long(kind, train, endless, latches))
            longer += len(left[1]) > len(endless[1])
        self.assertGreater(longer, 30)

    def test_no_walkers_six_walkers_one_setting(self):
        endless = ((0, 1, 1), (1, 0, 1, 0))
        self.assertEqual(left_endless(U, (), endless), shortest_pair(U, endless))
        self.assertEqual(left_endless(U, (1,) * 6, endless), shortest_pair(U, endless))
        self.assertEqual(left_endless(U, (0,) * 6, ((), (0,))), ((0, 1, 1), (0,)))
        one = (((0, 1),), ((0, 0),))
        self.assertEqual([shortest_pair(one, ((0,) * 12, (0,) * 12)), left_endless(one, (0, 1), ((0,), (0, 0)))],
                         [((), (0,))] * 2)
        six = tuple(tuple(((setting + sort) % 6, (sort + setting) % 6) for setting in range(6)) for sort in range(6))
        rng = random.Random(71)
        for _ in range(20):
            train, endless = drawn_train(rng, six, 2), drawn_endless(rng, six)
            left = left_endless(six, train, endless)
            self.assertEqual(written_out(left, 1200), slow_left_long(six, train, endless, 1200))

    def test_limit_of_trains(self):
        for kind, train in (FEW_1001, STILL_1001):
            self.assertEqual(raised(lambda: left_endless(kind, train, ((), (0,)))), "TooMany(1000)")
            self.assertEqual(raised(lambda: left_endless(kind, train, ((), ()))), "InvalidEndless")
        for kind, train in (FEW_1000, STILL_1000):
            left = left_endless(kind, train, ((1, 0), (0, 1)))
            self.assertEqual(written_out(left, 600), slow_left_long(kind, train, ((1, 0), (0, 1)), 600))

    def test_limit_of_settings(self):
        for kind, train, endless, heads, rings in LONG:
            self.assertLessEqual(len(slow_coming(kind, train)), 1000)
            latches = 2 * (heads + rings) + 12000
            left = slow_left_long(kind, train, endless, latches)
            # It has such a head and ring, and no shorter head or ring.
            self.assertEqual(left[heads:-rings], left[heads + rings:])
            if heads:
                self.assertNotEqual(left[heads - 1], left[heads - 1 + rings])
            for divisor in range(2, rings + 1):
                if rings % divisor == 0:
                    self.assertNotEqual(left[heads:-rings // divisor], left[heads + rings // divisor:])
            if max(heads, rings) > 1000:
                self.assertEqual(raised(lambda: left_endless(kind, train, endless)), "TooMany(1000)")
            else:
                self.assertEqual(left_endless(kind, train, endless), (left[:heads], left[heads:heads + rings]))

    def test_wrong_arguments(self):
        check_wrong(self, is_endless, (U, ((), (0,))), [wrong("kind")])
        check_wrong(self, shortest_pair, (U, ((), (0,))), [wrong("kind"), wrong("endless")])
        check_wrong(self, left_endless, (U, (0, 1), ((), (0,))), [wrong("kind"), wrong("few walkers"), wrong("endless")])
