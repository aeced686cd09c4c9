"""Roads that tell, or know, a lot [32], [75], [76], and what [3] says of them."""

import itertools
import random
import unittest

from latchroads.kindtexts import read_kind
from latchroads.tellingroads import fewest_roads, knowing_road, telling_road
from tests.helper import (FEW_1001, STILL_1000, STILL_1001, U, all_rows, check_wrong, drawn_kind, drawn_lot,
                          drawn_train, raised, slow_alike, slow_left, slow_lot_coming, slow_passed, told, wrong)

E = (((0, 3), (0, 3)), ((0, 3), (1, 3)), ((1, 3), (1, 3)), ((0, 3), (1, 3)))

# Lots with how many minglings come ahead of that of the least road, or at all if there is none.
MINGLINGS = [
    (read_kind("0c1a0b 0a1b2b 0b1a2c"), ((0, 1), (0, 2, 1), (1, 0), (1, 0, 2), (1, 2), (1, 2, 0), (2,), (2, 0),
                                         (2, 0, 0), (2, 1, 0), (2, 1, 1)), False, 900, True),
    (read_kind("4f3f2e3b0d 4a3d2f3e0c 4c3d2b3e0c 4b3d2e3b0a 4f3e2a3a0e 4a3c2d4a0e"),
     ((0,), (0, 2, 4), (0, 5, 0), (1,), (1, 2, 0), (2, 2, 2), (2, 4), (4, 0, 4), (5,), (5, 1, 3), (5, 1, 4)),
     False, 901, True),
    (read_kind("1b0e 1e0f 1c0b 1b0a 1d0a 1c0f"), ((1,), (1, 2, 3), (1, 3), (2, 2), (3, 0, 4), (3, 1, 2), (4,), (4, 3),
                                                  (4, 5, 4), (5, 0), (5, 4, 5)), True, 900, False),
    (read_kind("0f0b 0c0f 0b1f 0d0a 0f0d 0d0e"), ((1,), (2, 0, 1), (3,), (3, 1, 0), (3, 5), (4,), (5, 2)),
     True, 901, False),
    (read_kind("2a2c2d3a 2c2d2b3c 2e1e2b3e 2a2d2d3f 2b2c3e3e 2f2f3a3b"),
     ((0,), (0, 5, 1), (1,), (2, 1), (3,), (3, 1, 0), (4, 0), (5,), (5, 5)), True, 900, True),
    (read_kind("1c2d4e5c0f3e 1b2a0a5a0a3d 1a2f4a5d0e3a 1c2a4d5d0a3b 1a2a4d5e0f3a 1a2c4c5f0e3d"),
     ((1, 1, 1), (1, 2, 1), (3, 2, 5), (4,), (4, 0), (4, 5), (5, 2, 1), (5, 4, 0)), True, 901, True)]


def left_groups(kind, lot, road):
    """The trains as which those that leave a road alike come out, with how often each."""
    groups = {}
    for train in lot:
        left, out = slow_passed(kind, train, road)
        groups.setdefault(left, []).append(out)
    return list(groups.values())


def all_alone(kind, groups):
    return all(len(group) == 1 for group in groups)


def all_known(kind, groups):
    return all(slow_alike(kind, one, two) for group in groups for one, two in itertools.combinations(sorted(set(group)), 2))


def split(kind, groups, setting):
    """The groups behind one latch more, in a setting."""
    longer = []
    for group in groups:
        outs = [slow_passed(kind, train, (setting,)) for train in group]
        longer += [[out for other, out in outs if other == left] for left in sorted({left for left, _ in outs})]
    return longer


def slow_search(kind, lot, telling, most=1100):
    """The least road and how many minglings come ahead of its, or None and how many come, to so many of them."""
    met = set()
    roads = [((), [list(lot)])]
    for road, groups in roads:
        if telling and any(len(set(group)) < len(group) for group in groups):
            continue
        mingling = frozenset(frozenset(group) for group in groups if len(set(group)) > 1)
        if mingling not in met:
            if (all_alone if telling else all_known)(kind, groups):
                return road, len(met)
            met.add(mingling)
            roads += [(road + (setting,), split(kind, groups, setting)) for setting in range(len(kind[0]))]
        if len(met) == most:
            break
    return None, len(met)


def part_all(kind, lot, roads):
    """Whether each two trains of a lot leave one of some roads unlike."""
    return len({tuple(slow_left(kind, train, road) for road in roads) for train in lot}) == len(lot)


def slow_fewest(kind, lot, number):
    """How few roads of so many latches part a lot, of all sets of them, or None."""
    columns = sorted({tuple(slow_left(kind, train, road) for train in lot) for road in all_rows(len(kind[0]), number)})
    if len(set(zip(*columns))) < len(lot):
        return None
    return next(many for many in range(len(columns) + 1) for chosen in itertools.combinations(columns, many)
                if len({tuple(column[at] for column in chosen) for at in range(len(lot))}) == len(lot))


def hardly_parting(rng, settings):
    """A drawn kind whose sorts leave most latches alike, so that it takes several roads to part them."""
    common = [(rng.randrange(settings), rng.randrange(6)) for _ in range(settings)]
    odd = rng.choice((0.1, 0.2, 0.3, 0.5))
    return tuple(tuple((rng.randrange(settings) if rng.random() < odd else common[at][0], rng.randrange(6))
                       for at in range(settings)) for _ in range(6))


class TellingroadsTest(unittest.TestCase):

    def test_examples(self):
        names = dict(U=U, E=E, A=((), (0,), (0, 0), (0, 0, 0)), telling_road=telling_road, knowing_road=knowing_road,
                     fewest_roads=fewest_roads)
        told(self, """
            >>> E = (((0, 3), (0, 3)), ((0, 3), (1, 3)), ((1, 3), (1, 3)), ((0, 3), (1, 3)))
            >>> [telling_road(U, A), knowing_road(U, A), telling_road(U, ((0, 1), (1, 0))), knowing_road(U, ((0, 1), (1, 0))), telling_road(E, ((0,), (1,), (2,))), knowing_road(E, ((0,), (1,), (2,)))]
            [(0, 0), (0, 0), None, (), None, (0,)]
            >>> [fewest_roads(E, ((0,), (1,), (2,)), 1), fewest_roads(U, A, 1), len(fewest_roads(U, A, 2)), fewest_roads(U, A[:1], 1)]
            [((0,), (1,)), None, 1, ()]
            """, names)

    def test_beside_all_roads(self):
        rng = random.Random(75)
        found = {}
        for _ in range(400):
            settings = rng.randint(1, 4)
            kind, lot = drawn_lot(rng, settings, rng.randint(1, 4), 2, 5)
            most = {1: 3, 2: 5, 3: 4, 4: 3}[settings]
            roads = [road for many in range(most + 1) for road in all_rows(settings, many)]
            for function, fits in ((telling_road, all_alone), (knowing_road, all_known)):
                slow = next((road for road in roads if fits(kind, left_groups(kind, lot, road))), None)
                if slow is None and settings > 1:
                    try:
                        road = function(kind, lot)
                    except ValueError:
                        continue
                    self.assertTrue(road is None or len(road) > most)
                    self.assertTrue(function is telling_road or fits(kind, left_groups(kind, lot, road)))
                else:
                    self.assertEqual(function(kind, lot), slow)
                key = (function is telling_road, None if slow is None else len(slow))
                found[key] = found.get(key, 0) + 1
        for key in ((True, None), (True, 0), (True, 1), (True, 2), (False, 0), (False, 1), (False, 2)):
            self.assertGreater(found.get(key, 0), 3, found)

    def test_beside_minglings(self):
        rng = random.Random(76)
        lengths = set()
        for _ in range(600):
            settings = rng.randint(1, 6)
            kind, lot = drawn_lot(rng, settings, rng.randint(1, 6), 3, 12)
            if len(slow_lot_coming(kind, lot)) > 300:
                continue
            for function, telling in ((telling_road, True), (knowing_road, False)):
                road, ahead = slow_search(kind, lot, telling)
                if ahead > 900:
                    self.assertEqual(raised(lambda: function(kind, lot)), "TooMany(900)")
                else:
                    self.assertEqual(function(kind, lot), road)
                    # [3]: for each lot some road knows it.
                    self.assertTrue(telling or road is not None)
                    lengths.add((telling, None if road is None else len(road)))
        self.assertGreater(len(lengths), 9, lengths)

    def test_known_and_told(self):
        # One train is told by any road; alike trains are known by any and told by none.
        self.assertEqual([telling_road(U, ((0, 1),)), knowing_road(U, ((),))], [(), ()])
        self.assertEqual([telling_road(U, ((0,), (1, 0), (0, 1))), knowing_road(U, ((0,), (1, 0), (0, 1)))], [None, ()])
        one = (((0, 1),), ((0, 0),))
        self.assertEqual([telling_road(one, ((0,), (1,))), knowing_road(one, ((0,), (1,)))], [None, ()])
        # Two trains come out as one where they leave a latch alike: this road knows them, and tells them no more.
        as_one = (((0, 2), (1, 2)), ((0, 2), (0, 2)), ((0, 2), (1, 2)))
        self.assertEqual([telling_road(as_one, ((0,), (1,))), knowing_road(as_one, ((0,), (1,)))], [(1,), (0,)])
        three = (((0, 3), (0, 3)), ((0, 3), (1, 3)), ((0, 3), (1, 3)), ((0, 3), (1, 3)))
        self.assertEqual([telling_road(three, ((0,), (1,))), telling_road(three, ((0,), (1,), (2,)))], [(1,), None])

    def test_minglings_are_not_trains(self):
        # A way on by which two come out as one is left out for telling, and another one is gone.
        kind = (((0, 2), (0, 0)), ((0, 2), (0, 3)), ((0, 2), (0, 2)), ((1, 3), (0, 3)))
        lot = ((0,), (1,))
        self.assertEqual(slow_search(kind, lot, True)[0], (1, 0))
        self.assertEqual([telling_road(kind, lot), knowing_road(kind, lot)], [(1, 0), (0,)])

    def test_twelve_trains_of_six_walkers(self):
        rng = random.Random(77)
        for _ in range(15):
            kind = drawn_kind(rng, 2, 2)
            lot = tuple(rng.sample(all_rows(2, 6), 12))
            for function, telling in ((telling_road, True), (knowing_road, False)):
                road, ahead = slow_search(kind, lot, telling)
                self.assertEqual(function(kind, lot) if ahead <= 900 else None, road if ahead <= 900 else None)
        six = drawn_kind(rng, 6, 6)
        lot = tuple((sort,) for sort in range(6)) + tuple((sort, 0) for sort in range(6))
        self.assertEqual(telling_road(six, lot), slow_search(six, lot, True)[0])
        self.assertEqual(knowing_road(six, lot), slow_search(six, lot, False)[0])

    def test_limit_of_minglings(self):
        for kind, lot, telling, ahead, there in MINGLINGS:
            road, many = slow_search(kind, lot, telling)
            self.assertEqual([many, road is not None], [ahead, there])
            function = telling_road if telling else knowing_road
            if ahead > 900:
                self.assertEqual(raised(lambda: function(kind, lot)), "TooMany(900)")
                self.assertEqual(raised(lambda: function(kind, lot + lot)), "InvalidLot")
            else:
                self.assertEqual(function(kind, lot), road)

    def test_limit_of_trains(self):
        for kind, train in (FEW_1001, STILL_1001):
            for function in (telling_road, knowing_road, lambda kind, lot: fewest_roads(kind, lot, 60)):
                # It is ahead of those with 900 and 64.
                self.assertEqual(raised(lambda: function(kind, (train,))), "TooMany(1000)")
                self.assertEqual(raised(lambda: function(kind, ((), train))), "TooMany(1000)")
                self.assertEqual(raised(lambda: function(kind, (train, train))), "InvalidLot")
        kind, train = STILL_1000
        self.assertEqual([telling_road(kind, (train,)), fewest_roads(kind, (train,), 2)], [(), ()])
        self.assertEqual(raised(lambda: telling_road(kind, (train, ()))), "TooMany(1000)")
        self.assertEqual(raised(lambda: fewest_roads(kind, (train,), 3)), "TooMany(64)")

    def check_fewest(self, kind, lot, number):
        """The roads that are returned part the lot, and there are no fewer that do."""
        roads = fewest_roads(kind, lot, number)
        fewest = slow_fewest(kind, lot, number)
        self.assertEqual(None if roads is None else len(roads), fewest)
        if roads is not None:
            self.assertEqual(list(roads), sorted(set(roads)))
            self.assertTrue(all(road in all_rows(len(kind[0]), number) for road in roads))
            self.assertTrue(part_all(kind, lot, roads))
        return fewest

    def test_fewest_roads(self):
        rng = random.Random(78)
        found = {}
        for _ in range(1500):
            settings, most = rng.choice(((2, 4), (3, 2), (4, 2), (5, 1), (6, 1)))
            number = rng.randint(most // 2, most)
            if rng.random() < 0.3:
                kind, lot = drawn_lot(rng, settings, rng.randint(1, 6), 2, 8)
            else:
                kind = hardly_parting(rng, settings)
                lot = tuple({tuple(rng.randrange(6) for _ in range(rng.choice((1, 1, 2))))
                             for _ in range(rng.randint(2, 14))})[:12]
            fewest = self.check_fewest(kind, lot, number)
            found[fewest] = found.get(fewest, 0) + 1
        self.assertTrue(all(found.get(many, 0) > 2 for many in (None, 0, 1, 2, 3, 4)), found)

    def test_fewest_that_are_not_the_first_fit(self):
        # The road that parts most pairs is not one of the two that part all.
        rows = [(0, 0, 0), (0, 1, 0), (0, 0, 1), (1, 1, 1), (1, 0, 1), (1, 1, 0)]
        kind = tuple(tuple((left, sort) for left in row) for sort, row in enumerate(rows))
        lot = tuple((sort,) for sort in range(6))
        self.assertEqual(self.check_fewest(kind, lot, 1), 3)
        lot = tuple((sort,) for sort in (0, 1, 2, 3))
        self.assertEqual(self.check_fewest(kind, lot, 1), 2)

    def test_many_fewest(self):
        # Each road of one latch parts one sort from all others: all but one of these are taken.
        for many in range(2, 7):
            kind = tuple(tuple((1 if at == sort else 0, sort) for at in range(6)) for sort in range(many))
            lot = tuple((sort,) for sort in range(many))
            self.assertEqual(self.check_fewest(kind, lot, 1), many - 1)

    def test_twelve_trains(self):
        rng = random.Random(79)
        for _ in range(12):
            kind = drawn_kind(rng, rng.choice((2, 2, 4)), 4)
            lot = tuple({drawn_train(rng, kind, 3) for _ in range(40)})[:12]
            number = 4 if len(kind[0]) == 2 else 2
            fewest = slow_fewest(kind, lot, number)
            roads = fewest_roads(kind, lot, number)
            self.assertEqual(None if roads is None else len(roads), fewest)
            self.assertTrue(roads is None or part_all(kind, lot, roads))

    def test_limit_of_roads(self):
        for settings, most in ((2, 6), (3, 3), (4, 3), (5, 2), (6, 2)):
            kind = tuple(tuple(((at + sort) % settings, sort) for at in range(settings)) for sort in range(2))
            lot = ((0,), (1,))
            for number in range(most + 1):
                wanted = None if number == 0 else 1
                roads = fewest_roads(kind, lot, number)
                self.assertEqual(None if roads is None else len(roads), wanted)
            for number in (most + 1, 60):
                self.assertEqual(raised(lambda: fewest_roads(kind, lot, number)), "TooMany(64)")
                # However few are needed.
                self.assertEqual(raised(lambda: fewest_roads(kind, lot[:1], number)), "TooMany(64)")
            self.assertEqual(raised(lambda: fewest_roads(kind, lot, 61)), "InvalidNumber")
        one = (((0, 1),), ((0, 0),))
        self.assertEqual([fewest_roads(one, ((0,), (1,)), 60), fewest_roads(one, ((0,),), 60)], [None, ()])

    def test_wrong_arguments(self):
        lot = ((0,), (1, 0))
        for function in (telling_road, knowing_road):
            check_wrong(self, function, (U, lot), [wrong("kind"), wrong("lot")])
        check_wrong(self, fewest_roads, (U, lot, 3), [wrong("kind"), wrong("lot"), wrong("number", 0, 60)])
