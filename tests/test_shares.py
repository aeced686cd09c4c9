"""The greatest and the least share [21], [22], [62], and what [3] says of them."""

import random
import unittest
from fractions import Fraction
from math import gcd

from latchroads.changes import changed_at
from latchroads.shares import most_changed, share_heights, share_of, share_ring, surely_changed
from tests.helper import (KIND_1001, KIND_200, KIND_201, TRAIN_1001, TRAIN_200, TRAIN_201, U, Z, check_wrong,
                          drawn_kind, drawn_train, ending_kind, raised, roads_left, slow_changes, slow_coming, slow_rings,
                          slow_web, told, wrong)

SIDES = ("most", "least")


def is_ring(web, ring):
    """Whether a value is a ring of a web."""
    if type(ring) is not tuple or not ring or len({index for index, _ in ring}) != len(ring):
        return False
    return all(type(pair) is tuple and web[pair[0]][pair[1]][0] == ring[(at + 1) % len(ring)][0]
               for at, pair in enumerate(ring))


def ring_share(web, ring):
    return Fraction(sum(web[index][setting][1] for index, setting in ring), len(ring))


def are_heights(web, share, heights, side):
    """Whether a value is heights for a share."""
    upper, lower = share
    if type(heights) is not tuple or len(heights) != len(web):
        return False
    if not all(type(height) is int and abs(height) <= 10 ** 9 for height in heights):
        return False
    gains = [(lower * change - upper, heights[to] - heights[at])
             for at, row in enumerate(web) for to, change in row]
    return all(gain <= rise if side == "most" else gain >= rise for gain, rise in gains)


def longest_alone(web):
    """How many latches a road that is changed nowhere can have, or None for as many as one likes."""
    layer = {0}
    for latches in range(len(web) + 1):
        layer = {to for at in layer for to, change in web[at] if not change}
        if not layer:
            return latches
    return None


class SharesTest(unittest.TestCase):

    def check_shares(self, kind, train, web):
        """The ring tells that there is such a share, the heights that none is beyond it."""
        for side in SIDES:
            share = share_of(kind, train, side)
            self.assertIs(type(share), tuple)
            self.assertEqual((gcd(*share), share[1] > 0), (1, True))
            ring = share_ring(kind, train, side)
            self.assertTrue(is_ring(web, ring), ring)
            self.assertEqual(ring_share(web, ring), Fraction(*share))
            self.assertTrue(are_heights(web, share, share_heights(kind, train, side), side))

    def test_examples(self):
        told(self, """
            >>> [share_of(U, (0,), "most"), share_ring(U, (0,), "most"), share_of(U, (0,), "least"), share_of((((1, 1), (0, 1)), ((0, 0), (1, 0))), (0,), "most")]
            [(1, 1), ((0, 1),), (0, 1), (1, 2)]
            >>> [most_changed(U, (0,)), most_changed(U, (1,)), surely_changed(U, (0,)), surely_changed(U, (0, 0)), surely_changed(U, (1,))]
            [None, 0, 1, 2, None]
            """, dict(U=U, share_of=share_of, share_ring=share_ring, most_changed=most_changed,
                      surely_changed=surely_changed))

    def test_beside_all_rings(self):
        rng = random.Random(62)
        found = set()
        for _ in range(400):
            kind = drawn_kind(rng, rng.randint(1, 3), rng.randint(1, 6))
            train = drawn_train(rng, kind, 2)
            web = slow_web(kind, train)
            if len(web) > 7:
                continue
            rings = slow_rings({(at, setting): to for at, row in enumerate(web)
                                for setting, (to, _) in enumerate(row)})
            shares = [ring_share(web, ring) for ring in rings]
            greatest, least = share_of(kind, train, "most"), share_of(kind, train, "least")
            self.assertEqual(Fraction(*greatest), max(shares))
            self.assertEqual(Fraction(*least), min(shares))
            self.check_shares(kind, train, web)
            found |= {("most", greatest), ("least", least)}
        for side in SIDES:
            for share in ((0, 1), (1, 1), (1, 2)):
                self.assertIn((side, share), found)
        self.assertLessEqual({(1, 3), (2, 3)}, {share for _, share in found})

    def test_odd_shares(self):
        # Rings of some length, of which some steps change, and no other ones.
        for long in range(1, 7):
            for changing in range(long + 1):
                kind = tuple(tuple(((setting + (sort < changing)) % 2, (sort + 1) % long) for setting in range(2))
                             for sort in range(long))
                share = Fraction(changing, long)
                for side in SIDES:
                    self.assertEqual(share_of(kind, (0,), side), (share.numerator, share.denominator))
                self.check_shares(kind, (0,), slow_web(kind, (0,)))

    def test_two_rings(self):
        # The setting 0 leads through a ring of 2 of which 1 changes, the setting 1 through one of 3 of which 2 do.
        kind = (((1, 1), (0, 2)), ((0, 0), (1, 0)), ((1, 3), (0, 3)), ((0, 0), (1, 0)))
        self.assertEqual([share_of(kind, (0,), side) for side in SIDES], [(2, 3), (1, 2)])
        self.check_shares(kind, (0,), slow_web(kind, (0,)))

    def test_large_webs(self):
        rng = random.Random(63)
        sizes = []
        while len(sizes) < 25:
            kind = drawn_kind(rng, rng.randint(2, 6), rng.randint(2, 6))
            train = drawn_train(rng, kind, 4)
            if 20 < len(slow_coming(kind, train)) <= 200:
                self.check_shares(kind, train, slow_web(kind, train))
                sizes.append(len(slow_coming(kind, train)))
        self.assertGreater(max(sizes), 80)

    def test_changed_latches_keep_to_the_shares(self):
        # [3]: the greatest number is unlike n times the greatest share by no more than heights differ, for all n.
        rng = random.Random(64)
        for _ in range(60):
            kind = drawn_kind(rng, rng.randint(1, 4), rng.randint(1, 4))
            train = drawn_train(rng, kind, 3)
            if len(slow_coming(kind, train)) > 60:
                continue
            for side in SIDES:
                upper, lower = share_of(kind, train, side)
                heights = share_heights(kind, train, side)
                for latches in (0, 1, 2, 7, 100, 200):
                    gap = abs(lower * changed_at(kind, train, side, latches) - upper * latches)
                    self.assertLessEqual(gap, max(heights) - min(heights))

    def test_most_changed_beside_counts(self):
        rng = random.Random(65)
        found = {}
        for _ in range(500):
            settings, sorts = rng.randint(1, 3), rng.randint(1, 6)
            kind = drawn_kind(rng, settings, sorts)
            if rng.random() < 0.7:
                kind = ending_kind(rng, settings, sorts)
            train = drawn_train(rng, kind, 2)
            web = slow_web(kind, train)
            if len(web) > 30:
                continue
            most = [changed_at(kind, train, "most", latches) for latches in range(2 * len(web) + 1)]
            # With a ring that changes something there is one more for each time it is gone through.
            bound = None if most[-1] > most[len(web)] else most[-1]
            self.assertEqual(most_changed(kind, train), bound)
            self.assertIs(bound is None, share_of(kind, train, "most") != (0, 1))
            found[bound] = found.get(bound, 0) + 1
            if bound is not None and len(web) <= 6:
                self.assertEqual(bound, max(len(slow_changes(*both)) for both in roads_left(kind, train, len(web))))
        self.assertTrue(all(found.get(bound, 0) > 5 for bound in (None, 0, 1, 2, 3)), found)

    def test_surely_changed_beside_all_roads(self):
        rng = random.Random(66)
        found = {}
        for _ in range(500):
            settings = rng.randint(1, 3)
            kind = drawn_kind(rng, settings, rng.randint(1, 5))
            train = drawn_train(rng, kind, 3)
            web = slow_web(kind, train)
            longest = longest_alone(web)
            sure = None if longest is None else longest + 1
            self.assertEqual(surely_changed(kind, train), sure)
            found[sure] = found.get(sure, 0) + 1
            for latches in range(5):
                alone = [road for road, left in roads_left(kind, train, latches) if road == left]
                self.assertIs(alone == [], sure is not None and latches >= sure)
        self.assertTrue(all(found.get(sure, 0) > 5 for sure in (None, 1, 2, 3)), found)

    def test_nothing_one_setting_sixty_walkers(self):
        for kind, train in ((U, ()), (Z, ()), (U, (1,) * 60), ((((0, 0),),), (0, 0))):
            for side in SIDES:
                self.assertEqual(share_of(kind, train, side), (0, 1))
            self.assertEqual([most_changed(kind, train), surely_changed(kind, train)], [0, None])
            self.check_shares(kind, train, slow_web(kind, train))
        one = (((0, 1),), ((0, 0),))
        self.assertEqual(share_ring(one, (0,), "most")[0][1], 0)
        self.check_shares(one, (0,), slow_web(one, (0,)))
        six = tuple(tuple(((setting + 1) % 6, (sort + 1) % 6) for setting in range(6)) for sort in range(6))
        for train, share in (((0,) * 60, (0, 1)), ((0,) * 59, (1, 1))):
            self.assertEqual([share_of(six, train, side) for side in SIDES], [share, share])
            self.check_shares(six, train, slow_web(six, train))

    def test_limit(self):
        self.check_shares(KIND_200, TRAIN_200, slow_web(KIND_200, TRAIN_200))
        for function in (most_changed, surely_changed):
            self.assertNotEqual(raised(lambda: function(KIND_200, TRAIN_200)), "TooMany(200)")
            for kind, train in ((KIND_201, TRAIN_201), (KIND_1001, TRAIN_1001)):
                self.assertEqual(raised(lambda: function(kind, train)), "TooMany(200)")
        for function in (share_of, share_ring, share_heights):
            for side in SIDES:
                for kind, train in ((KIND_201, TRAIN_201), (KIND_1001, TRAIN_1001)):
                    self.assertEqual(raised(lambda: function(kind, train, side)), "TooMany(200)")
            self.assertEqual(raised(lambda: function(KIND_201, TRAIN_201, "last")), "InvalidSide")
            self.assertEqual(raised(lambda: function(KIND_201, TRAIN_201 + (5,), "last")), "InvalidTrain")

    def test_wrong_arguments(self):
        for function in (share_of, share_ring, share_heights):
            check_wrong(self, function, (U, (0, 1), "least"), [wrong("kind"), wrong("train"), wrong("side")])
        for function in (most_changed, surely_changed):
            check_wrong(self, function, (U, (0, 1)), [wrong("kind"), wrong("train")])
