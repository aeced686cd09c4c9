"""Endless roads that are left from some one, and those that stay as they are [30], [71], [72]."""

import random
import unittest

from latchroads.begun import is_onto, kept_count, kept_roads, never_begun
from latchroads.kindtexts import read_kind
from tests.helper import (D, FEW_1000, FEW_1001, STILL_1000, STILL_1001, U, Z, all_rows, check_new_list, check_wrong,
                          drawn_kind, drawn_train, mixed_kind, one_to_one_kind, raised, slow_coming, slow_left,
                          slow_left_long, slow_passed, slow_shortest, told, written_out, wrong)

# Just so many lots come of these, the empty one among them or not.
LOTS = [(read_kind("0d0b0a 0a1d2c 2b1c0a 1d0c0a"), (1, 3, 0, 0, 3), 1000, True),
        (read_kind("2a0c1a 2d0a2a 2c2b0c 2b2a2b"), (2, 0, 2, 1), 1001, True),
        (read_kind("1e2b0e 1d2c0b 2c0a1e 0c1a2e 1b2a0e"), (2, 2, 4, 2, 0), 1000, False),
        (read_kind("1d2c0b 2e0b1d 1c0e2a 0a2a1b 1e2e0b"), (0, 1, 4, 1, 1), 1001, False)]


def slow_lots(kind, train, most=2000):
    """The lots that come of a train, to so many: {lot: the lots behind one latch more, by the setting left}."""
    steps = {}
    todo = [frozenset([train])]
    while todo and len(steps) <= most:
        lot = todo.pop()
        if lot not in steps:
            outs = [slow_passed(kind, first, (setting,)) for first in lot for setting in range(len(kind[0]))]
            steps[lot] = [frozenset(out for left, out in outs if left == (at,)) for at in range(len(kind[0]))]
            todo += steps[lot]
    return steps


def counting_kind(choices):
    """A kind whose sorts keep a latch in so many of its settings, and go on as the next one; the last one in one."""
    settings = max(choices)
    rows = [tuple((at, sort + 1) if at < many else ((at + 1) % settings, sort) for at in range(settings))
            for sort, many in enumerate(choices)]
    last = len(choices)
    return (*rows, tuple((0, last) for _ in range(settings)))


def kept_behind(kind, first):
    """The pairs (setting, train behind it) of the latches that a train leaves as they are."""
    outs = [(setting, slow_passed(kind, first, (setting,))) for setting in range(len(kind[0]))]
    return [(setting, out) for setting, (left, out) in outs if left == (setting,)]


def slow_kept(kind, train, most):
    """The shortest pairs of all endless roads that stay as they are, or None for more than most.

    Roads that stay and go on for good are told latch by latch. Behind as many
    latches as trains come there are no more of them if they are not infinitely many.
    """
    goes_on = slow_coming(kind, train)
    many = len(goes_on)
    for _ in range(many):
        goes_on = [first for first in goes_on if any(out in goes_on for _, out in kept_behind(kind, first))]
    rows = [((), train)] if train in goes_on else []
    counts = []
    for _ in range(2 * many):
        rows = [(road + (setting,), out) for road, first in rows for setting, out in kept_behind(kind, first)
                if out in goes_on]
        counts.append(len(rows))
        if len(rows) > most:
            return None
    if counts[many - 1] < counts[-1]:
        return None
    found = []
    for road, out in rows:
        outs = [slow_passed(kind, train, road[:at])[1] for at in range(len(road) + 1)]
        again = next(at for at in range(len(outs)) if outs[at] in outs[:at])
        first = outs.index(outs[again])
        found.append(slow_shortest((road[:first], road[first:again])))
    return sorted(found)


class BegunTest(unittest.TestCase):

    def test_examples(self):
        names = dict(U=U, D=D, is_onto=is_onto, never_begun=never_begun, kept_count=kept_count, kept_roads=kept_roads)
        told(self, """
            >>> [is_onto(U, (0,)), is_onto(D, (0,)), never_begun(D, (0,)), never_begun(D, (1, 0))]
            [True, False, (1,), (1,)]
            >>> [kept_count(U, (0,)), kept_count(U, (1,)), kept_roads(D, (0,)), kept_roads(D, (0, 1))]
            [0, 'endless', [((), (0,))], [((), (1, 0))]]
            """, names)

    def test_never_begun_beside_all_tuples(self):
        rng = random.Random(71)
        found = {}
        for _ in range(1000):
            settings = rng.randint(1, 4)
            kind = mixed_kind(rng, settings, rng.randint(1, 5), rng.random() / 2)
            train = drawn_train(rng, kind, 3)
            lots = slow_lots(kind, train, 100)
            if len(lots) > 100:
                continue
            self.assertIs(is_onto(kind, train), frozenset() not in lots)
            found_tuple = never_begun(kind, train)
            # [3]: it is onto if and only if each tuple is begun.
            self.assertIs(found_tuple is None, frozenset() not in lots)
            most = {1: 6, 2: 7, 3: 5, 4: 4}[settings]
            slow = None
            for latches in range(most + 1):
                left = {slow_left(kind, train, road) for road in all_rows(settings, latches)}
                slow = next((road for road in all_rows(settings, latches) if road not in left), None)
                if slow is not None:
                    break
            if slow is None:
                self.assertTrue(found_tuple is None or len(found_tuple) > most)
            else:
                self.assertEqual(found_tuple, slow)
            latches = None if found_tuple is None else len(found_tuple)
            found[latches] = found.get(latches, 0) + 1
        self.assertTrue(all(found.get(latches, 0) > 5 for latches in (None, 1, 2, 3)), found)

    def test_begun_tuples_go_on(self):
        # A tuple that is left by some road is begun by some endless one: that which goes on in any way.
        rng = random.Random(72)
        for _ in range(40):
            kind = drawn_kind(rng, 2, rng.randint(1, 3))
            train = drawn_train(rng, kind, 2)
            for road in all_rows(2, 4):
                left = slow_left(kind, train, road)
                self.assertEqual(slow_left_long(kind, train, (road, (1, 0)), 30)[:4], left)

    def test_onto_and_what_keeps(self):
        rng = random.Random(73)
        for _ in range(40):
            kind = one_to_one_kind(rng, rng.randint(1, 6), rng.randint(1, 6))
            train = drawn_train(rng, kind, 2)
            self.assertEqual([is_onto(kind, train), never_begun(kind, train)], [True, None])
        self.assertEqual([is_onto(Z, (0,)), never_begun(Z, (0,)), never_begun(Z, (1,))], [False, (1, 1), (1,)])

    def test_kept_beside_slow_reading(self):
        rng = random.Random(74)
        found = {}
        for _ in range(900):
            settings = rng.randint(2, 4)
            kind = drawn_kind(rng, settings, rng.randint(2, 6))
            # Often a latch stays, so that roads do; often sorts go on as later ones, so that these are not too many.
            last = len(kind) - 1 if rng.random() < 0.7 else 0
            kind = tuple(tuple((at if rng.random() < 0.5 else left,
                                min(max(behind, sort + 1), last) if last else behind)
                               for at, (left, behind) in enumerate(row)) for sort, row in enumerate(kind))
            if last:
                kind = kind[:-1] + (((0, last),) * settings,)
            train = drawn_train(rng, kind, 2)
            if len(slow_coming(kind, train)) > 12:
                continue
            count, roads = kept_count(kind, train), kept_roads(kind, train)
            wanted = slow_kept(kind, train, 400)
            if wanted is None:
                self.assertEqual([count, roads], ["endless", None])
            else:
                self.assertEqual([count, roads], [len(wanted), wanted])
                for head, ring in roads:
                    latches = len(head) + len(ring) * 20
                    road = written_out((head, ring), latches)
                    self.assertEqual(slow_left_long(kind, train, (head, ring), latches), road)
            found[count] = found.get(count, 0) + 1
        self.assertTrue(all(found.get(count, 0) > 5 for count in (0, 1, 2, 3, "endless")), found)

    def test_endless_needs_a_way_out_of_a_ring(self):
        # A ring alone; two rings from one sort; a ring with a way out that ends; one that leads to another ring.
        ring = (((0, 0), (0, 1)), ((0, 1), (0, 1)))
        self.assertEqual([kept_count(ring, (0,)), kept_roads(ring, (0,))], [1, [((), (0,))]])
        two = (((0, 1), (1, 2)), ((0, 1), (0, 1)), ((1, 2), (1, 2)))
        self.assertEqual(kept_roads(two, (0,)), [((), (0,)), ((), (1,))])
        out = (((0, 0), (1, 1)), ((1, 1), (0, 1)))
        self.assertEqual([kept_count(out, (0,)), kept_roads(out, (0,))], [1, [((), (0,))]])
        leads = (((0, 0), (1, 1)), ((0, 1), (0, 1)))
        self.assertEqual([kept_count(leads, (0,)), kept_roads(leads, (0,)), kept_roads(leads, (1,))],
                         ["endless", None, [((), (0,))]])
        both = (((0, 0), (1, 0)),)
        self.assertEqual([kept_count(both, (0,)), kept_roads(both, (0,))], ["endless", None])

    def test_counts_that_are_great(self):
        kind = counting_kind((5, 5, 5, 5, 5))
        self.assertEqual(kept_count(kind, (0,)), 3125)
        self.assertEqual(raised(lambda: kept_roads(kind, (0,))), "TooMany(1000)")
        kind = counting_kind((6, 6, 6, 6, 6))
        self.assertEqual([kept_count(kind, (sort,)) for sort in range(6)], [7776, 1296, 216, 36, 6, 1])

    def test_limit_of_the_list(self):
        rows = counting_kind((5, 5, 5, 4, 2))
        wide = (*[(*row, ((at + 1) % 5, at)) for at, row in enumerate(rows[:5])], (*rows[5], (0, 5)))
        self.assertEqual([kept_count(wide, (0,)), len(kept_roads(wide, (0,)))], [1000, 1000])
        self.assertEqual(kept_roads(wide, (0,)), slow_kept(wide, (0,), 1000))
        # One more way leads to the ring at once.
        more = ((*wide[0][:5], (5, 5)),) + wide[1:]
        self.assertEqual(kept_count(more, (0,)), 1001)
        self.assertEqual(raised(lambda: kept_roads(more, (0,))), "TooMany(1000)")
        self.assertEqual(raised(lambda: kept_roads(more, (0, 7))), "InvalidTrain")

    def test_no_walkers_one_setting_six_walkers(self):
        for kind, train in ((U, ()), (Z, ()), ((((0, 0),),), (0,) * 6), ((((0, 1),), ((0, 0),)), (0, 1))):
            self.assertEqual([is_onto(kind, train), never_begun(kind, train)], [True, None])
        self.assertEqual([kept_count(U, ()), kept_roads(U, ())], ["endless", None])
        one = (((0, 1),), ((0, 0),))
        for train in ((), (0,), (0, 1, 0, 1, 1, 1)):
            self.assertEqual([kept_count(one, train), kept_roads(one, train)], [1, [((), (0,))]])
        self.assertEqual([is_onto(U, (0,) * 6), kept_count(U, (0,) * 6)], [True, 0])
        six = tuple(tuple((sort, setting) for setting in range(6)) for sort in range(6))
        self.assertEqual([is_onto(six, (3,)), never_begun(six, (3,)), kept_roads(six, (3,))],
                         [False, (0,), [((), (3,))]])
        self.assertEqual(kept_roads(six, (3, 1, 2)), [((), (2, 1, 3))])

    def test_limit_of_lots(self):
        for kind, train, many, empty in LOTS:
            lots = slow_lots(kind, train)
            self.assertEqual((len(lots), frozenset() in lots), (many, empty))
            if many > 1000:
                for function in (is_onto, never_begun):
                    self.assertEqual(raised(lambda: function(kind, train)), "TooMany(1000)")
                    self.assertEqual(raised(lambda: function(kind, train + (6,))), "InvalidTrain")
            else:
                self.assertIs(is_onto(kind, train), not empty)
                self.assertIs(never_begun(kind, train) is None, not empty)

    def test_trains_are_no_lots(self):
        # More than 1000 trains come, and few lots.
        zero = tuple(tuple((0, (sort + setting) % 6) for setting in range(6)) for sort in range(6))
        train = (0, 1, 2, 3)
        self.assertEqual([is_onto(zero, train), never_begun(zero, train)], [False, (1,)])
        still = tuple(tuple((setting, (5 * sort + setting) % 6) for setting in range(6)) for sort in range(6))
        self.assertEqual(raised(lambda: kept_count(FEW_1001[0], FEW_1001[1])), "TooMany(1000)")
        self.assertEqual(kept_count(still, (0,) * 6), "endless")

    def test_limit_of_trains(self):
        for kind, train in (FEW_1001, STILL_1001):
            for function in (kept_count, kept_roads):
                self.assertEqual(raised(lambda: function(kind, train)), "TooMany(1000)")
                self.assertEqual(raised(lambda: function(kind, train + (6,))), "InvalidTrain")
        self.assertEqual([kept_count(*STILL_1000), kept_roads(*STILL_1000)], ["endless", None])
        self.assertEqual(raised(lambda: is_onto(*STILL_1001)), "TooMany(1000)")
        # As many lots as trains come of it: each is that of one train.
        self.assertEqual([is_onto(*STILL_1000), never_begun(*STILL_1000)], [True, None])
        self.assertIn("no error", raised(lambda: kept_roads(*FEW_1000)))

    def test_lists_are_new(self):
        check_new_list(self, kept_roads, D, (0, 1))

    def test_wrong_arguments(self):
        for function in (is_onto, never_begun, kept_count, kept_roads):
            check_wrong(self, function, (U, (0, 1)), [wrong("kind"), wrong("few walkers")])
