"""Roads that let all trains through alike [25], [66], and what [3] says of them."""

import random
import unittest

from latchroads.kindtexts import read_kind
from latchroads.roadpairs import are_closed_roads, closed_roads, let_alike, parting_train
from tests.helper import (BIG, SPOILT, U, X, all_rows, check_wrong, doubled_kind, drawn_kind, drawn_road, raised,
                          rows_up_to, slow_passed, told, wrong)

# Roads with as many pairs that are met; the first two let alike, the last two as figures of numbers that are counted
# up to the greatest one, behind which a walker comes out otherwise.
COUNTER = (tuple(((at + 1) % 6, 0 if at == 5 else 1) for at in range(6)), tuple((at, 1) for at in range(6)))
LIMITS = [(read_kind("2b1b4b0b3b2b 0b4b3a2a5b5b"), (3, 0, 3, 0), (3, 4, 3, 4), 1000, False),
          (read_kind("3b3c3c2c 2b0a0a0a 0c3a3a2a"), (1, 0, 1, 3, 1, 2, 2), (2, 0, 3, 3, 2, 2, 2), 1001, False),
          (COUNTER, (2, 1, 2, 1), (0, 0, 0, 0), 1000, True), (COUNTER, (1, 1, 2, 1), (0, 0, 0, 0), 1001, True)]


def pair_by(kind, pair, sort):
    """The two sorts as which a walker comes out of two roads, and the two roads left."""
    passings = [slow_passed(kind, (sort,), road) for road in pair]
    return tuple(out for _, out in passings), tuple(left for left, _ in passings)


def slow_met(kind, road, mate):
    """The pairs that are met by the words of [66], and whether a walker parts the last one whose turn came."""
    met = [(road, mate)]
    known = set(met)
    for pair in met:
        rows = [pair_by(kind, pair, sort) for sort in range(len(kind))]
        if any(outs[0] != outs[1] for outs, _ in rows):
            return met, True
        for _, lefts in rows:
            if lefts not in known:
                met.append(lefts)
                known.add(lefts)
        if len(met) > 1001:
            return met, None
    return met, False


def slow_parting(kind, road, mate, most):
    """The least train of at most so many walkers that comes out of both roads unlike, or None."""
    return next((train for train in rows_up_to(len(kind), most)
                 if slow_passed(kind, train, road)[1] != slow_passed(kind, train, mate)[1]), None)


def slow_closed(kind, road, mate, value):
    """Whether a tuple of pairs of roads is a closed lot with the pair of both."""
    if (road, mate) not in value or list(value) != sorted(set(value)) or len(value) > 1000:
        return False
    rows = [pair_by(kind, pair, sort) for pair in value for sort in range(len(kind))]
    return all(outs[0] == outs[1] and lefts in value for outs, lefts in rows)


def like_mate(rng, kind, road):
    """A road often let alike with another one: one of its latches is another one, or all may be."""
    if rng.random() < 0.3:
        return drawn_road(rng, kind, 4)
    return tuple(rng.randrange(len(kind[0])) if rng.random() < 0.5 else setting for setting in road)


class RoadpairsTest(unittest.TestCase):

    def test_example(self):
        told(self, """
            >>> [let_alike(X, (1, 1), ()), let_alike(U, (0,), (0, 0)), parting_train(U, (0, 0), (0, 1)), parting_train(X, (1,), ())]
            [True, False, (0, 0), (0,)]
            >>> [closed_roads(X, (1,), ()), are_closed_roads(X, (0, 1), (1, 0), (((0, 1), (1, 0)), ((1, 1), (0, 0)))), are_closed_roads(X, (1,), (), (((1,), ()),))]
            [None, True, False]
            """, dict(U=U, X=X, let_alike=let_alike, parting_train=parting_train, closed_roads=closed_roads,
                      are_closed_roads=are_closed_roads))

    def test_beside_short_trains(self):
        rng = random.Random(66)
        found = {}
        for _ in range(700):
            kind = doubled_kind(rng, drawn_kind(rng, rng.randint(1, 3), rng.randint(1, 3)))
            road = drawn_road(rng, kind, 4)
            mate = like_mate(rng, kind, road)
            met, parted = slow_met(kind, road, mate)
            if len(met) > 30 or len(kind) ** len(met) > 1500:
                continue
            train = slow_parting(kind, road, mate, len(met))
            self.assertIs(train is None, not parted)
            self.assertEqual(parting_train(kind, road, mate), train)
            self.assertIs(let_alike(kind, road, mate), train is None)
            key = (None if train is None else len(train), len(road) == len(mate), road == mate)
            found[key] = found.get(key, 0) + 1
        for key in ((None, True, False), (None, False, False), (1, True, False), (1, False, False), (2, True, False)):
            self.assertGreater(found.get(key, 0), 3, (key, found))
        self.assertTrue(any(key[0] is not None and key[0] > 2 for key in found), found)

    def test_closed_lots(self):
        rng = random.Random(67)
        found = [0, 0]
        sizes = set()
        for _ in range(400):
            kind = doubled_kind(rng, drawn_kind(rng, rng.randint(1, 3), rng.randint(1, 3)))
            road = drawn_road(rng, kind, 5)
            mate = like_mate(rng, kind, road)
            met, parted = slow_met(kind, road, mate)
            if len(met) > 100:
                continue
            lot = closed_roads(kind, road, mate)
            self.assertIs(lot is None, parted)
            found[parted] += 1
            if lot is None:
                self.assertIs(are_closed_roads(kind, road, mate, tuple(sorted(met))), False)
                continue
            self.assertTrue(slow_closed(kind, road, mate, lot))
            self.assertIs(are_closed_roads(kind, road, mate, lot), True)
            sizes.add(len(lot))
            # The pair of both roads turned, or with other latches, may still be closed; it is judged by the words.
            spoilt = [lot[:at] + lot[at + 1:] for at in range(min(len(lot), 6))] + [lot[::-1], lot + lot[-1:], ()]
            for _ in range(6):
                extra = (drawn_road(rng, kind, 3), drawn_road(rng, kind, 3))
                spoilt.append(tuple(sorted(set(lot) | {extra})))
                other = drawn_road(rng, kind, 3)
                spoilt.append(tuple(sorted(set(lot) | {(other, other)})))
            for value in spoilt:
                self.assertIs(are_closed_roads(kind, road, mate, value), slow_closed(kind, road, mate, value))
        self.assertGreater(min(found), 50)
        self.assertGreater(len(sizes), 6)

    def test_greater_lots_are_closed_too(self):
        pairs = [((1,), (1, 1)), ((0,), (0, 0))]
        still = (((0, 0), (1, 0)),)
        for value in ([pairs[0]], pairs, pairs + [((), ())], pairs + [((0, 1), ())]):
            self.assertIs(are_closed_roads(still, (1,), (1, 1), tuple(sorted(value))), True)
            self.assertIs(are_closed_roads(still, (1, 1), (1,), tuple(sorted(value))), False)
        self.assertIs(are_closed_roads(still, (1,), (1, 1), tuple(pairs)), False)

    def test_any_value_for_a_lot(self):
        still = (((0, 0), (1, 0)),)
        right = (((1,), (0, 1)),)
        self.assertIs(are_closed_roads(still, (1,), (0, 1), right), True)
        for value in SPOILT + [(), ((),), list(right), ([(1,), (0, 1)],), (((1,), (0, 1), ()),), (((1,),),),
                               (((1,), [0, 1]),), (((True,), (0, 1)),), (((1,), (0, 2)),), (((1,), (0, -1)),),
                               (((1,), (0, 1)), 0), (((1,), (0, 1)), None), (((1,), (0, BIG)),), (((1,), "01"),),
                               right + right, (((0,) * 9, ()),) + right, right + (((1,), (1,) * 9),),
                               (((0,) * 61, ()),) + right]:
            self.assertIs(are_closed_roads(still, (1,), (0, 1), value), False, value)
        self.assertIs(are_closed_roads(still, (1,), (0, 1), (((0,) * 8, ()),) + right), True)

    def test_lots_of_a_thousand(self):
        still = (tuple((setting, 0) for setting in range(6)),)
        rows = sorted((road, mate) for road in all_rows(6, 2) for mate in all_rows(6, 2))
        self.assertIs(are_closed_roads(still, (0, 0), (0, 0), tuple(rows[:1000])), True)
        self.assertIs(are_closed_roads(still, (0, 0), (0, 0), tuple(rows[:1001])), False)

    def test_no_latches_eight_latches_one_sort(self):
        self.assertEqual([let_alike(U, (), ()), parting_train(U, (), ()), closed_roads(U, (), ())],
                         [True, None, (((), ()),)])
        one = (tuple(((setting + 1) % 6, 0) for setting in range(6)),)
        self.assertEqual(closed_roads(one, (0,) * 8, ()), tuple(((at,) * 8, ()) for at in range(6)))
        self.assertEqual(len(closed_roads(one, (0,) * 8, (3,))), 6)
        self.assertIs(let_alike(U, (0, 1) * 4, (0, 1) * 4), True)
        self.assertIs(let_alike(U, (1, 1, 0, 1, 1, 1, 0, 1), (1, 1, 0, 1, 1, 1, 0, 0)), False)
        self.assertEqual(parting_train(U, (1,) * 7, (1,) * 8), (0,) * 129)
        self.assertEqual(parting_train(U, (1,) * 8, (1,) * 7 + (0,)), (0,))
        setting = tuple(((0, (sort + 1) % 6),) for sort in range(6))
        self.assertEqual([let_alike(setting, (0,) * 8, (0, 0)), parting_train(setting, (0,) * 8, (0,) * 3)],
                         [True, (0,)])
        for sorts in (1, 6):
            rng = random.Random(sorts)
            kind = drawn_kind(rng, 6, sorts)
            for _ in range(10):
                road, mate = drawn_road(rng, kind, 8), drawn_road(rng, kind, 8)
                self.assertEqual(parting_train(kind, road, mate), slow_parting(kind, road, mate, 2))

    def test_the_parting_train_may_have_many_walkers(self):
        # A latch counts down: walkers come out of it so, until it stands at 0.
        down = (tuple((max(at - 1, 0), 1 if at == 0 else 0) for at in range(6)), tuple((at, 0) for at in range(6)))
        for one in range(6):
            for two in range(one):
                self.assertEqual(parting_train(down, (one,), (two,)), (0,) * (two + 1))
        # Eight latches of the kind U turn as the figures of a number, the first one the least.
        ones = parting_train(U, (0,) * 8, (0,) * 7 + (1,))
        self.assertEqual(ones, (0,) * 128)
        self.assertNotEqual(slow_passed(U, ones, (0,) * 8)[1], slow_passed(U, ones, (0,) * 7 + (1,))[1])
        self.assertEqual(slow_passed(U, ones[:-1], (0,) * 8)[1], slow_passed(U, ones[:-1], (0,) * 7 + (1,))[1])

    def test_limit(self):
        for kind, road, mate, many, parted in LIMITS:
            met, found = slow_met(kind, road, mate)
            self.assertEqual((len(met), found), (many, parted))
            for function in (let_alike, parting_train, closed_roads):
                outcome = raised(lambda: function(kind, road, mate))
                self.assertIs(outcome == "TooMany(1000)", many > 1000, (function, many))
                self.assertEqual(raised(lambda: function(kind, road, (9,))), "InvalidRoad")
            lot = tuple(sorted(met))
            self.assertIs(are_closed_roads(kind, road, mate, lot), many <= 1000 and not parted)
            if many <= 1000:
                self.assertIs(let_alike(kind, road, mate), not parted)
                self.assertEqual(closed_roads(kind, road, mate) is None, parted)

    def test_wrong_arguments(self):
        rows = [wrong("kind"), wrong("few latches"), wrong("few latches")]
        for function in (let_alike, parting_train, closed_roads):
            check_wrong(self, function, (U, (0, 1), (1,)), rows)
        check_wrong(self, are_closed_roads, (U, (0, 1), (1,), ()), rows)
