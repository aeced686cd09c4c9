"""Counts of roads, and how they grow [21], [23], [63], and what [3] says of it."""

import itertools
import random
import unittest

from latchroads.roadcounts import growth_of, growth_rings, roads_counted
from tests.helper import (KIND_1001, KIND_200, KIND_201, TRAIN_1001, TRAIN_200, TRAIN_201, U, Z, check_wrong,
                          drawn_kind, drawn_train, raised, roads_left, slow_changes, slow_coming, slow_rings,
                          slow_web, told, wrong)

COUNTS = ("last", "alone")


def behind_all(steps):
    """For each index that a step has, what can be come to from it by one step or more."""
    leads = {at: [] for place, to in steps.items() for at in (place[0], to)}
    for (index, _), to in steps.items():
        leads[index].append(to)
    reach = {}
    for at in leads:
        met = list(dict.fromkeys(leads[at]))
        for to in met:
            met += set(leads[to]) - set(met)
        reach[at] = set(met)
    return reach


def count_steps(web, count):
    """The steps {(index, setting): index} of the web of a count, by the words of [23]."""
    steps = {(at, setting): to for at, row in enumerate(web) for setting, (to, _) in enumerate(row)}
    changing = {at for at, row in enumerate(web) if any(change for _, change in row)}
    if count == "last":
        reach = behind_all(steps)
        there = {at for at in reach if at in changing or reach[at] & changing}
        return {place: to for place, to in steps.items() if place[0] in there and to in there}
    steps = {place: to for place, to in steps.items() if not web[place[0]][place[1]][1]}
    reach = behind_all(steps).get(0, set()) | {0}
    return {place: to for place, to in steps.items() if place[0] in reach}


def slow_growth(steps):
    """The growth by the rings of the web of a count, and how many of them stand in a row."""
    rings = slow_rings(steps)
    if not rings:
        return "none", 0
    for one, two in itertools.combinations(rings, 2):
        if {index for index, _ in one} & {index for index, _ in two}:
            return "doubling", 2
    reach = behind_all(steps)
    rows = [[ring] for ring in rings]
    most = 1
    while rows:
        rows = [row + [ring] for row in rows for ring in rings
                if ring not in row and ring[0][0] in reach[row[-1][0][0]]]
        most += bool(rows)
    return ("bounded" if most == 1 else ("power", most - 1)), most


def slow_counts_of(web, count, most):
    """The list of the counts for 0 latches and on, told by all trains behind so many latches."""
    layer = {0: 1}
    counts = []
    for latches in range(most + 1):
        counts.append(sum(layer.values()))
        longer = {}
        for at, many in layer.items():
            for to, change in web[at]:
                if count == "last" or not change:
                    longer[to] = longer.get(to, 0) + many
        if count == "last":
            changed = sum(many * sum(change for _, change in web[at]) for at, many in layer.items())
            counts[-1:] = [0, changed] if latches == 0 else [changed]
        layer = longer
    return counts[:most + 1]


def row_kind(rng, sorts):
    """A drawn kind whose sorts mostly stay in one setting, and go on as the next ones in the other."""
    rows = []
    for sort in range(sorts):
        behind = [sort if rng.random() < 0.8 else min(sort + 1, sorts - 1), min(sort + 1, sorts - 1)]
        if sort == sorts - 1 and rng.random() < 0.5:
            behind[1] = rng.randrange(sorts)
        rng.shuffle(behind)
        rows.append(tuple((rng.randrange(2), out) for out in behind))
    return tuple(rows)


class RoadCountsTest(unittest.TestCase):

    def check_rings(self, steps, growth, rings):
        """Whether rings are as the document says for a growth, which is told by a slow reading."""
        self.assertIs(type(rings), tuple)
        for ring in rings:
            self.assertIs(type(ring), tuple)
            self.assertEqual(len({index for index, _ in ring}), len(ring))
            for at, place in enumerate(ring):
                self.assertEqual(steps.get(place), ring[(at + 1) % len(ring)][0])
        if growth == "doubling":
            one, two = rings
            self.assertEqual(one[0][0], two[0][0])
            self.assertNotEqual(one, two)
            return
        many = {"none": 0, "bounded": 1}.get(growth) if isinstance(growth, str) else growth[1] + 1
        self.assertEqual(len(rings), many)
        indices = [index for ring in rings for index, _ in ring]
        self.assertEqual(len(indices), len(set(indices)))
        reach = behind_all(steps)
        for one, two in zip(rings, rings[1:]):
            self.assertIn(two[0][0], reach[one[0][0]])

    def test_examples(self):
        told(self, """
            >>> [roads_counted(U, (0,), "last", 7), roads_counted(U, (0, 0), "last", 7), roads_counted(U, (1,), "alone", 7), roads_counted(U, (0,), "alone", 0)]
            [2, 4, 128, 1]
            >>> [growth_of(U, (0,), "last"), growth_rings(U, (0,), "last"), growth_of(U, (0,), "alone"), growth_of(U, (1,), "alone"), growth_rings(U, (1,), "last")]
            ['bounded', (((0, 1),),), 'none', 'doubling', ()]
            """, dict(U=U, roads_counted=roads_counted, growth_of=growth_of, growth_rings=growth_rings))

    def test_counts_beside_all_roads(self):
        rng = random.Random(63)
        found = {count: set() for count in COUNTS}
        for _ in range(200):
            settings = rng.randint(1, 4)
            kind = drawn_kind(rng, settings, rng.randint(1, 4))
            train = drawn_train(rng, kind, 3)
            if len(slow_coming(kind, train)) > 200:
                continue
            for latches in range({1: 5, 2: 7, 3: 5, 4: 4}[settings]):
                changes = [slow_changes(*both) for both in roads_left(kind, train, latches)]
                last = sum(1 for row in changes if latches - 1 in row)
                alone = sum(1 for row in changes if not row)
                self.assertEqual(roads_counted(kind, train, "last", latches), last)
                self.assertEqual(roads_counted(kind, train, "alone", latches), alone)
                found["last"].add(last)
                found["alone"].add(alone)
        self.assertTrue(all(len(some) > 15 for some in found.values()))

    def test_counts_of_many_latches(self):
        rng = random.Random(64)
        for _ in range(30):
            kind = drawn_kind(rng, rng.randint(1, 4), rng.randint(1, 4))
            train = drawn_train(rng, kind, 3)
            web = slow_web(kind, train)
            for count in COUNTS:
                many = slow_counts_of(web, count, 200)
                for latches in (0, 1, 2, 30, 60, 199, 200):
                    self.assertEqual(roads_counted(kind, train, count, latches), many[latches])

    def test_growth_beside_rings(self):
        rng = random.Random(65)
        found = {}
        for _ in range(500):
            kind = drawn_kind(rng, rng.randint(1, 3), rng.randint(1, 6))
            if rng.random() < 0.7:
                kind = row_kind(rng, rng.randint(3, 6))
            train = drawn_train(rng, kind, 2)
            web = slow_web(kind, train)
            if len(web) > 8:
                continue
            for count in COUNTS:
                steps = count_steps(web, count)
                growth, _ = slow_growth(steps)
                self.assertEqual(growth_of(kind, train, count), growth)
                self.check_rings(steps, growth, growth_rings(kind, train, count))
                found[growth] = found.get(growth, 0) + 1
        for growth in ("none", "bounded", ("power", 1), ("power", 2), "doubling"):
            self.assertGreater(found.get(growth, 0), 5, found)

    def test_growth_beside_counts(self):
        rng = random.Random(66)
        found = set()
        for _ in range(150):
            kind = row_kind(rng, rng.randint(2, 6))
            train = (rng.randrange(2),)
            web = slow_web(kind, train)
            for count in COUNTS:
                counts = slow_counts_of(web, count, 500)
                growth = growth_of(kind, train, count)
                early, late = max(counts[240:250]), max(counts[490:500])
                # For twice as many latches a power grows by 2 to the power of its exponent, about.
                if growth == "none":
                    self.assertEqual(set(counts[len(web) + 1:]), {0})
                elif growth == "bounded":
                    self.assertEqual((early > 0, late), (True, early))
                elif growth == "doubling":
                    self.assertGreater(late, early * 2 ** 20)
                else:
                    self.assertEqual(round(late / early).bit_length(), (2 ** growth[1]).bit_length())
                found.add(growth)
        self.assertLessEqual({"none", "bounded", "doubling", ("power", 1), ("power", 2), ("power", 3)}, found)

    def test_growths_in_a_row(self):
        # Each sort stays so at 0, and goes on as the next one at 1; the last one changes latches, or all leave them.
        for many in range(1, 6):
            kind = tuple(((0, sort), (1, min(sort + 1, many))) for sort in range(many)) + (((0, many), (0, many)),)
            # The last sort leaves 1 changed and goes on so by two settings.
            self.assertEqual(growth_of(kind, (0,), "last"), "doubling")
            # Here behind each sort but the last, which is that of the ring, latches stand in 0 alone.
            still = tuple(((0, sort), (1, sort + 1)) for sort in range(many)) + (((0, many), (0, many)),)
            self.assertEqual(growth_of(still, (0,), "alone"), ("power", many))
            rings = growth_rings(still, (0,), "alone")
            self.assertEqual(rings, tuple(((sort, 0),) for sort in range(many + 1)))
            self.assertEqual(growth_of(still, (many,), "alone"), "bounded")

    def test_two_settings_make_two_rings(self):
        # Rings with the same indices, but unlike settings, are unlike.
        self.assertEqual(growth_of(U, (1,), "alone"), "doubling")
        one, two = growth_rings(U, (1,), "alone")
        self.assertEqual({one, two}, {((0, 0),), ((0, 1),)})
        kind = (((0, 1), (1, 1), (2, 1)), ((0, 0), (0, 0), (0, 0)))
        steps = count_steps(slow_web(kind, (0,)), "alone")
        self.check_rings(steps, "doubling", growth_rings(kind, (0,), "alone"))

    def test_what_can_not_be_changed_later_is_left_out(self):
        # Behind a latch in 1 nothing is changed any more, so only the way through 0 counts for "last".
        kind = (((1, 0), (1, 1)), ((0, 1), (1, 1)))
        self.assertEqual([growth_of(kind, (0,), "last"), growth_of(kind, (0,), "alone")], ["bounded", "doubling"])
        self.assertEqual(growth_rings(kind, (0,), "last"), (((0, 0),),))
        self.assertEqual(slow_growth(count_steps(slow_web(kind, (0,)), "alone"))[0], "doubling")
        self.assertEqual([roads_counted(kind, (0,), "last", latches) for latches in range(4)], [0, 1, 1, 1])
        # A ring that only steps with 1 lead to is none of the web of "alone".
        apart = (((1, 1), (0, 1)), ((0, 1), (1, 1)))
        self.assertEqual([growth_of(apart, (0,), "alone"), growth_rings(apart, (0,), "alone")], ["none", ()])
        self.assertEqual([growth_of(apart, (0,), "last"), growth_rings(apart, (0,), "last")], ["none", ()])
        self.assertEqual([roads_counted(apart, (0,), "last", latches) for latches in range(4)], [0, 2, 0, 0])

    def test_nothing_one_setting_sixty_walkers(self):
        for kind, train, growth in ((U, (), "doubling"), (Z, (), "doubling"), (U, (1,) * 60, "doubling"),
                                    ((((0, 0),),), (0,) * 60, "bounded"), ((((0, 1),), ((0, 0),)), (0,), "bounded")):
            self.assertEqual([growth_of(kind, train, count) for count in COUNTS], ["none", growth])
            self.assertEqual(growth_rings(kind, train, "last"), ())
            steps = count_steps(slow_web(kind, train), "alone")
            self.check_rings(steps, growth, growth_rings(kind, train, "alone"))
            self.assertEqual([roads_counted(kind, train, "last", latches) for latches in (0, 1, 200)], [0, 0, 0])
            self.assertEqual(roads_counted(kind, train, "alone", 200), len(kind[0]) ** 200)
        six = tuple(tuple(((setting + 1) % 6, (sort + 1) % 6) for setting in range(6)) for sort in range(6))
        self.assertEqual([growth_of(six, (0,) * 59, count) for count in COUNTS], ["doubling", "none"])
        self.assertEqual([roads_counted(six, (0,) * 59, count, 200) for count in COUNTS], [6 ** 200, 0])
        for train in ((), (0,), (0, 0)):
            self.assertEqual([roads_counted(U, train, count, 0) for count in COUNTS], [0, 1])

    def test_limit(self):
        web = slow_web(KIND_200, TRAIN_200)
        for count in COUNTS:
            many = slow_counts_of(web, count, 200)
            self.assertEqual(roads_counted(KIND_200, TRAIN_200, count, 200), many[200])
            steps, growth = count_steps(web, count), growth_of(KIND_200, TRAIN_200, count)
            self.check_rings(steps, growth, growth_rings(KIND_200, TRAIN_200, count))
            for kind, train in ((KIND_201, TRAIN_201), (KIND_1001, TRAIN_1001)):
                for latches in (0, 1, 200):
                    self.assertEqual(raised(lambda: roads_counted(kind, train, count, latches)), "TooMany(200)")
                self.assertEqual(raised(lambda: growth_of(kind, train, count)), "TooMany(200)")
                self.assertEqual(raised(lambda: growth_rings(kind, train, count)), "TooMany(200)")
                self.assertEqual(raised(lambda: roads_counted(kind, train, count, 201)), "InvalidNumber")
        for function in (growth_of, growth_rings):
            self.assertEqual(raised(lambda: function(KIND_201, TRAIN_201, "most")), "InvalidSide")
            self.assertEqual(raised(lambda: function(KIND_201, TRAIN_201 + (5,), "most")), "InvalidTrain")
        self.assertEqual(raised(lambda: roads_counted(KIND_201, TRAIN_201, "most", 201)), "InvalidSide")

    def test_wrong_arguments(self):
        check_wrong(self, roads_counted, (U, (0, 1), "last", 7),
                    [wrong("kind"), wrong("train"), wrong("count"), wrong("number", 0, 200)])
        for function in (growth_of, growth_rings):
            check_wrong(self, function, (U, (0, 1), "alone"), [wrong("kind"), wrong("train"), wrong("count")])
