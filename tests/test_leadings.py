"""Trains that lead told roads [33], [77]."""

import itertools
import random
import unittest

from latchroads.kindtexts import read_kind
from latchroads.leadings import count_leading, least_leading, roads_led
from tests.helper import (U, Z, all_rows, check_new_list, check_wrong, drawn_kind, drawn_road, mixed_kind,
                          one_to_one_kind, raised, rows_up_to, slow_left, told, wrong)

# Roads that are led, together, to just so many tuples of roads.
LED = [(read_kind("0e4c3b2a1d 0c3d0d3b1d 2c0a1d2b1e 0b0a0a3a3b 1e4e4e1e0d"), ((2, 2, 3, 3, 0),), 1000),
       (read_kind("1b2d1d3a 0b2c2b3c 0a3b2b1c 0d1b1a0c"), ((3, 3, 1, 0, 0),), 1001),
       (read_kind("1a4b2b0a3a5a 0a2a4a1b3a5a"), ((3, 4, 5), (5, 0, 1), (3, 2, 1), (5, 0, 5)), 1000),
       (read_kind("1b0b4a3a2a5a 0b3a5b3a5a4b"), ((2, 1, 3, 5), (5, 5, 5, 0), (4, 4, 5, 4), (4, 1, 2, 1)), 1001)]


def slow_led(kind, roads, sorts):
    """All tuples of roads to which walkers of some sorts lead some roads, in turn."""
    met = [tuple(roads)]
    known = set(met)
    for first in met:
        for sort in sorts:
            left = tuple(slow_left(kind, (sort,), road) for road in first)
            if left not in known:
                met.append(left)
                known.add(left)
    return met


def leads(kind, told_roads, train):
    return all(slow_left(kind, train, road) == left for road, left in told_roads)


def slow_count(kind, told_roads, number):
    """How many trains of so many walkers lead told roads: tuples of roads are led on walker by walker."""
    counts = {tuple(road for road, _ in told_roads): 1}
    for _ in range(number):
        longer = {}
        for roads, many in counts.items():
            for sort in range(len(kind)):
                left = tuple(slow_left(kind, (sort,), road) for road in roads)
                longer[left] = longer.get(left, 0) + many
        counts = longer
    return counts.get(tuple(left for _, left in told_roads), 0)


def drawn_told(rng, kind, latches, most):
    """Drawn told roads, that one train leads or none."""
    train = tuple(rng.randrange(len(kind)) for _ in range(rng.randint(0, 6)))
    rows = []
    for _ in range(rng.randint(1, most)):
        road = drawn_road(rng, kind, latches)
        left = slow_left(kind, train, road)
        if rng.random() < 0.15:
            left = tuple(rng.randrange(len(kind[0])) for _ in road)
        rows.append((road, left))
    return tuple(rows)


class LeadingsTest(unittest.TestCase):

    def test_example(self):
        told(self, """
            >>> [count_leading(U, (((0, 0), (1, 1)),), 4), least_leading(U, (((0, 0), (1, 1)),)), least_leading(U, (((0,), (1,)), ((0,), (0,)))), roads_led(U, (1,), (0, 1)), len(roads_led(U, (0, 1), (0, 0, 0)))]
            [4, (0, 0, 0), None, [(0, 1)], 8]
            """, dict(U=U, count_leading=count_leading, least_leading=least_leading, roads_led=roads_led))

    def test_beside_all_trains(self):
        rng = random.Random(77)
        found = {}
        for _ in range(500):
            sorts = rng.randint(1, 4)
            kind = rng.choice((drawn_kind, mixed_kind, one_to_one_kind))(rng, rng.randint(1, 3), sorts)
            rows = drawn_told(rng, kind, 3, 3)
            most = {1: 7, 2: 6, 3: 4, 4: 3}[sorts]
            if len(slow_led(kind, [road for road, _ in rows], range(sorts))) > 1000:
                continue
            trains = [train for train in rows_up_to(sorts, most) if leads(kind, rows, train)]
            for number in range(most + 1):
                many = sum(len(train) == number for train in trains)
                self.assertEqual(count_leading(kind, rows, number), many)
            least = least_leading(kind, rows)
            if trains:
                self.assertEqual(least, trains[0])
            else:
                self.assertTrue(least is None or len(least) > most and leads(kind, rows, least))
            walkers = None if least is None else len(least)
            found[walkers] = found.get(walkers, 0) + 1
        self.assertTrue(all(found.get(walkers, 0) > 5 for walkers in (None, 0, 1, 2, 3, 4)), found)

    def test_many_walkers(self):
        rng = random.Random(78)
        for _ in range(60):
            kind = drawn_kind(rng, rng.randint(1, 3), rng.randint(1, 3))
            rows = drawn_told(rng, kind, 3, 4)
            if len(slow_led(kind, [road for road, _ in rows], range(len(kind)))) > 60:
                continue
            for number in (0, 10, 59, 60):
                self.assertEqual(count_leading(kind, rows, number), slow_count(kind, rows, number))

    def test_least_trains_that_are_long(self):
        # A road of eight latches of the kind U is counted on from one end to the other.
        self.assertEqual(least_leading(U, (((0,) * 8, (1,) * 8),)), (0,) * 255)
        self.assertEqual(least_leading(U, (((1,) * 8, (0,) * 8), ((0,) * 8, (1,) + (0,) * 7))), (0,))
        for number, many in ((0, 0), (1, 1), (2, 2), (60, 60)):
            self.assertEqual(count_leading(U, (((0,) * 8, (1,) + (0,) * 7),), number), many)

    def test_all_told_roads_together(self):
        # Each is led by some train, and both by none.
        both = (((0,), (1,)), ((1,), (1,)))
        self.assertEqual([least_leading(U, both[:1]), least_leading(U, both[1:]), least_leading(U, both)],
                         [(0,), (), None])
        self.assertEqual([count_leading(U, both, number) for number in range(4)], [0] * 4)
        self.assertEqual([least_leading(Z, both), count_leading(Z, (((0,), (0,)), ((1,), (0,))), 1)], [None, 1])
        self.assertEqual(least_leading(Z, (((0,), (0,)), ((1,), (0,)))), (1,))
        # One road may be told twice, with roads left that are alike or not.
        self.assertEqual(least_leading(U, (((0,), (1,)),) * 4), (0,))
        self.assertEqual(least_leading(U, (((0,), (1,)), ((0,), (0,)))), None)

    def test_roads_led_beside_walkers(self):
        rng = random.Random(79)
        sizes = set()
        for _ in range(300):
            kind = drawn_kind(rng, rng.randint(1, 6), rng.randint(1, 6))
            road = drawn_road(rng, kind, rng.choice((1, 3, 8)))
            sorts = tuple(sort for sort in range(len(kind)) if rng.random() < 0.6)
            found = slow_led(kind, (road,), sorts)
            if len(found) > 1000:
                continue
            led = roads_led(kind, sorts, road)
            self.assertEqual(led, sorted(first for first, in found))
            sizes.add(len(led))
            if len(sorts) < 4:
                short = {slow_left(kind, train, road) for many in range(4)
                         for train in itertools.product(sorts, repeat=many)}
                self.assertTrue(short <= set(led))
        self.assertGreater(len(sizes), 15)

    def test_no_sorts_no_latches_one_setting(self):
        self.assertEqual([roads_led(U, (), (0, 1)), roads_led(U, (), ()), roads_led(U, (0, 1), ())],
                         [[(0, 1)], [()], [()]])
        self.assertEqual(roads_led(U, (0,), (0,) * 8), all_rows(2, 8))
        self.assertEqual([least_leading(U, (((), ()),) * 4), count_leading(U, (((), ()),), 60)], [(), 2 ** 60])
        one = (((0, 1),), ((0, 0),))
        self.assertEqual([least_leading(one, (((0,) * 8, (0,) * 8),)), count_leading(one, (((0,), (0,)),), 60),
                          roads_led(one, (0, 1), (0,) * 8)], [(), 2 ** 60, [(0,) * 8]])
        six = tuple(tuple(((at + sort) % 6, (at * sort) % 6) for at in range(6)) for sort in range(6))
        self.assertEqual(roads_led(six, tuple(range(6)), (0, 5)), sorted(
            road for road, in slow_led(six, ((0, 5),), range(6))))
        row = (tuple(((at + 1) % 6, 0) for at in range(6)),)
        self.assertEqual([least_leading(row, (((0,) * 8, (5,) * 8),)), count_leading(row, (((0,), (0,)),), 60),
                          count_leading(row, (((0,), (0,)),), 59)], [(0,) * 5, 1, 0])

    def test_limit(self):
        for kind, roads, many in LED:
            self.assertEqual(len(slow_led(kind, roads, range(len(kind)))), many)
            rows = tuple((road, road) for road in roads)
            calls = [lambda: count_leading(kind, rows, 0), lambda: least_leading(kind, rows)]
            if len(roads) == 1:
                calls.append(lambda: roads_led(kind, tuple(range(len(kind))), roads[0]))
            for call in calls:
                self.assertIs(raised(call) == "TooMany(1000)", many > 1000)
            self.assertEqual(raised(lambda: count_leading(kind, rows, 61)), "InvalidNumber")
            if many <= 1000:
                self.assertEqual([count_leading(kind, rows, 0), least_leading(kind, rows)], [1, ()])
                last = slow_led(kind, roads, range(len(kind)))[-1]
                train = least_leading(kind, tuple(zip(roads, last)))
                self.assertTrue(leads(kind, tuple(zip(roads, last)), train))
            if len(roads) == 1:
                self.assertEqual(raised(lambda: roads_led(kind, (0, 6), roads[0])), "InvalidSorts")
                self.assertEqual(raised(lambda: roads_led(kind, (0,), roads[0] + (6,))), "InvalidRoad")
                # With fewer sorts there may be fewer roads.
                few = slow_led(kind, roads, (0,))
                self.assertEqual(len(roads_led(kind, (0,), roads[0])), len(few))

    def test_no_other_limit(self):
        # More than 1000 trains come of trains of these sorts, which is not counted here.
        wide = tuple(tuple((0, (sort + at) % 6) for at in range(6)) for sort in range(6))
        rows = (((1,) * 8, (0,) * 8),)
        self.assertEqual([least_leading(wide, rows), count_leading(wide, rows, 60)], [(0,), 6 ** 60])

    def test_lists_are_new(self):
        check_new_list(self, roads_led, U, (0, 1), (0, 0))

    def test_wrong_arguments(self):
        rows = (((0, 0), (1, 1)), ((), ()))
        check_wrong(self, count_leading, (U, rows, 3), [wrong("kind"), wrong("told"), wrong("number", 0, 60)])
        check_wrong(self, least_leading, (U, rows), [wrong("kind"), wrong("told")])
        check_wrong(self, roads_led, (U, (0, 1), (1, 0)), [wrong("kind"), wrong("sorts"), wrong("few latches")])
