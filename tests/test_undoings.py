"""What undoes a train [20], [60], and what [3] says of it."""

import random
import unittest

from latchroads.kinds import is_kind, is_train
from latchroads.undoings import is_undoing, not_undone, undoes, undoing_of
from tests.helper import (KIND_1000, KIND_1001, KIND_LIKES, SPOILT, TRAIN_1000, TRAIN_1001, U, Z, check_wrong,
                          drawn_kind, drawn_road, drawn_train, mixed_kind, one_to_one_kind, raised, rows_up_to,
                          slow_coming, slow_left, slow_passed, slow_sorts, told, wrong)

BACK = ((((1, 0), (0, 1)), ((0, 1), (1, 1))), (0,))


def pairs_behind(kind, train, beside, other):
    """All pairs as which a train, and the other one behind it, come out of roads."""
    met = [(train, other)]
    for one, two in met:
        for setting in range(len(kind[0])):
            left, out = slow_passed(kind, one, (setting,))
            behind = (out, slow_passed(beside, two, left)[1])
            if behind not in met:
                met.append(behind)
    return met


def slow_not_undone(kind, train, beside, other):
    """The least road not left as it was, of at most as many latches as there are pairs, or None."""
    most = len(pairs_behind(kind, train, beside, other))
    return next((road for road in rows_up_to(len(kind[0]), most)
                 if slow_left(beside, other, slow_left(kind, train, road)) != road), None)


def few_roads(kind, train, beside, other):
    return len(kind[0]) ** len(pairs_behind(kind, train, beside, other)) < 600


class UndoingsTest(unittest.TestCase):

    def test_example(self):
        told(self, """
            >>> Z = (((0, 0), (1, 1)), ((0, 0), (0, 0)))
            >>> [is_undoing(U, (0,), ((((1, 0), (0, 1)), ((0, 1), (1, 1))), (0,))), undoing_of(Z, (0,)), undoes(U, (1,), (1, 1)), undoes(U, (0,), (0,)), not_undone(U, (0,), (0,))]
            [True, None, True, False, (0, 0)]
            """, dict(U=U, is_undoing=is_undoing, undoing_of=undoing_of, undoes=undoes, not_undone=not_undone))

    def test_undoings_undo(self):
        rng = random.Random(60)
        found = [0, 0]
        for _ in range(300):
            kind = mixed_kind(rng, rng.randint(1, 6), rng.randint(1, 6))
            train = drawn_train(rng, kind, 3)
            # [3]: it is undone if and only if no sort that comes of its walkers loses.
            keeps = all(len({left for left, _ in kind[sort]}) == len(kind[0]) for sort in slow_sorts(kind, train))
            undoing = undoing_of(kind, train)
            self.assertIs(undoing is None, not keeps)
            found[keeps] += 1
            if keeps:
                beside, other = undoing
                self.assertTrue(is_kind(beside) and is_train(beside, other))
                self.assertEqual(len(beside[0]), len(kind[0]))
                self.assertLessEqual(len(pairs_behind(kind, train, beside, other)), 1000)
                self.assertIs(is_undoing(kind, train, undoing), True)
                for _ in range(20):
                    road = drawn_road(rng, kind, 12)
                    self.assertEqual(slow_left(beside, other, slow_left(kind, train, road)), road)
        self.assertGreater(min(found), 50)

    def test_undoings_beside_all_roads(self):
        rng = random.Random(61)
        tried = 0
        for _ in range(150):
            kind = one_to_one_kind(rng, rng.randint(1, 3), rng.randint(1, 4))
            train = drawn_train(rng, kind, 3)
            undoing = undoing_of(kind, train)
            if few_roads(kind, train, *undoing):
                self.assertIsNone(slow_not_undone(kind, train, *undoing))
                tried += 1
        self.assertGreater(tried, 50)

    def test_spoilt_undoings(self):
        rng = random.Random(62)
        found = [0, 0]
        for _ in range(150):
            kind = one_to_one_kind(rng, rng.randint(2, 3), rng.randint(1, 3))
            train = drawn_train(rng, kind, 2)
            beside, other = undoing_of(kind, train)
            spoilt = []
            for _ in range(6):
                rows = [list(row) for row in beside]
                sort, setting = rng.randrange(len(rows)), rng.randrange(len(kind[0]))
                left, behind = rows[sort][setting]
                rows[sort][setting] = rng.choice([((left + 1) % len(kind[0]), behind),
                                                  (left, (behind + 1) % len(rows))])
                spoilt.append((tuple(map(tuple, rows)), other))
            spoilt += [(beside, other[::-1]), (beside, other + (0,)), (beside, other[1:]), (kind, train)]
            for value in spoilt:
                if few_roads(kind, train, *value):
                    right = slow_not_undone(kind, train, *value) is None
                    self.assertIs(is_undoing(kind, train, value), right)
                    found[right] += 1
        self.assertGreater(min(found), 100)

    def test_own_trains_beside_all_roads(self):
        rng = random.Random(63)
        found = {}
        for _ in range(600):
            kind = mixed_kind(rng, rng.randint(1, 4), rng.randint(1, 3))
            train, other = drawn_train(rng, kind, 2), drawn_train(rng, kind, 2)
            if not few_roads(kind, train, kind, other):
                continue
            road = slow_not_undone(kind, train, kind, other)
            self.assertEqual(not_undone(kind, train, other), road)
            self.assertIs(undoes(kind, train, other), road is None)
            self.assertIs(is_undoing(kind, train, (kind, other)), road is None)
            latches = None if road is None else len(road)
            found[latches] = found.get(latches, 0) + 1
        self.assertTrue(all(found.get(latches, 0) > 5 for latches in (None, 1, 2)), found)

    def test_least_road_is_long(self):
        # Behind so many latches that are left as they were, one is not.
        for many in range(1, 6):
            kind = tuple(((0, sort + 1), (1, sort)) for sort in range(many)) + (((1, many), (0, many)),)
            self.assertEqual(not_undone(kind, (0,), ()), (0,) * (many + 1))
            self.assertEqual(not_undone(kind, (), (0,)), (0,) * (many + 1))
            self.assertEqual(slow_not_undone(kind, (0,), kind, ()), (0,) * (many + 1))

    def test_any_value_for_an_undoing(self):
        self.assertIs(is_undoing(U, (0,), BACK), True)
        for value in SPOILT + KIND_LIKES + [U, (U,), (U, (0,), ()), list(BACK), (list(BACK[0]), (0,)),
                                            (BACK[0], [0]), (BACK[0], (2,)), (BACK[0], (True,)), (BACK[0], None),
                                            (BACK[0], (-1,)), (BACK[0], 0), (None, (0,)), ((0,), BACK[0]),
                                            (BACK[0][:1], (0,)), (BACK[0], (0,) + (1,) * 60), ((((0, 0),),), (0,)),
                                            ((((0, 0), (1, 0), (2, 0)),), ()), ((), ()), ((((1, 0), (0, 1)),), (0,))]:
            self.assertIs(is_undoing(U, (0,), value), False, value)
        self.assertIs(is_undoing(U, (0,), (BACK[0], (0,) + (1,) * 59)), True)
        self.assertIs(is_undoing(U, (0,), ((((1, 1), (0, 0)), ((0, 1), (1, 1))), (0,))), False)

    def test_kinds_of_other_sizes(self):
        # The undoing may have more sorts, or fewer, than the kind.
        still = (((0, 0), (1, 0)),)
        self.assertIs(is_undoing(U, (1, 1), (still, (0,) * 60)), True)
        self.assertIs(is_undoing(U, (1, 1), (still, ())), True)
        self.assertIs(is_undoing(U, (0,), (still, ())), False)
        turn = (((1, 0), (0, 0)),)
        self.assertIs(is_undoing(turn, (0,), (turn, (0,))), True)
        self.assertIs(is_undoing(turn, (0,), (turn, ())), False)
        six = BACK[0] + (((1, 1), (1, 1)),) * 4
        self.assertIs(is_undoing(U, (0,), (six, (0,))), True)
        self.assertIs(is_undoing(U, (0,), (six, (0, 5))), False)

    def test_nothing_one_setting_sixty_walkers(self):
        self.assertEqual([undoes(Z, (), ()), not_undone(Z, (), ()), not_undone(Z, (), (1,))], [True, None, (1,)])
        self.assertIs(is_undoing(Z, (), undoing_of(Z, ())), True)
        one = (((0, 1),), ((0, 0),))
        self.assertEqual([undoes(one, (0, 1), (1,) * 60), not_undone(one, (0,), ())], [True, None])
        self.assertIs(is_undoing(one, (0,) * 60, undoing_of(one, (0,) * 60)), True)
        six = tuple(tuple(((setting + sort) % 6, (sort + 1) % 6) for setting in range(6)) for sort in range(6))
        train = tuple(walker % 6 for walker in range(60))
        undoing = undoing_of(six, train)
        self.assertIs(is_undoing(six, train, undoing), True)
        self.assertIs(is_undoing(six, train, (undoing[0], undoing[1][1:])), False)
        self.assertIs(is_undoing(six, train[:59], undoing_of(six, train[:59])), True)

    def test_some_sorts_lose_that_do_not_come(self):
        kind = U + (((0, 0), (0, 2)),)
        undoing = undoing_of(kind, (0, 1, 0))
        self.assertTrue(is_kind(undoing[0]))
        self.assertIs(is_undoing(kind, (0, 1, 0), undoing), True)
        self.assertIsNone(undoing_of(kind, (0, 2)))

    def test_limit_of_trains(self):
        for value in (BACK, None, 0, (), (KIND_1001, ())):
            self.assertEqual(raised(lambda: is_undoing(KIND_1001, TRAIN_1001, value)), "TooMany(1000)")
            self.assertEqual(raised(lambda: is_undoing(KIND_1001, TRAIN_1001 + (4,), value)), "InvalidTrain")
        self.assertEqual(raised(lambda: undoing_of(KIND_1001, TRAIN_1001)), "TooMany(1000)")
        self.assertIsNone(undoing_of(KIND_1000, TRAIN_1000))
        rng = random.Random(64)
        many = 0
        for _ in range(40):
            kind = one_to_one_kind(rng, 3, 3)
            train = tuple(rng.randrange(3) for _ in range(6))
            coming = len(slow_coming(kind, train))
            if coming > 300:
                self.assertIs(is_undoing(kind, train, undoing_of(kind, train)), True)
                many += 1
        self.assertGreater(many, 0)

    def test_limit_of_pairs(self):
        # Of () one train comes; the pairs are those of what stands behind it, needed or not.
        self.assertEqual(raised(lambda: is_undoing(KIND_1001, (), (KIND_1001, TRAIN_1001))), "TooMany(1000)")
        self.assertIs(is_undoing(KIND_1000, (), (KIND_1000, TRAIN_1000)), False)
        for function in (undoes, not_undone):
            for train, other in (((), TRAIN_1001), (TRAIN_1001, ())):
                self.assertEqual(raised(lambda: function(KIND_1001, train, other)), "TooMany(1000)")
                self.assertEqual(raised(lambda: function(KIND_1001, train, other + (4,))), "InvalidTrain")
        for train, other in (((), TRAIN_1000), (TRAIN_1000, ())):
            self.assertIs(undoes(KIND_1000, train, other), False)
            road = not_undone(KIND_1000, train, other)
            self.assertEqual(len(road), 1)
        rng = random.Random(65)
        met = {True: 0, False: 0}
        while min(met.values()) < 4:
            kind = drawn_kind(rng, 2, 3)
            train, other = (tuple(rng.randrange(3) for _ in range(5)) for _ in range(2))
            if len(slow_coming(kind, train)) > 200:
                continue
            many = len(pairs_behind(kind, train, kind, other)) > 1000
            met[many] += 1
            for function in (undoes, not_undone):
                self.assertIs(raised(lambda: function(kind, train, other)) == "TooMany(1000)", many)
            self.assertIs(raised(lambda: is_undoing(kind, train, (kind, other))) == "TooMany(1000)", many)

    def test_wrong_arguments(self):
        check_wrong(self, undoing_of, (U, (0, 1)), [wrong("kind"), wrong("train")])
        check_wrong(self, is_undoing, (U, (0, 1), BACK), [wrong("kind"), wrong("train")])
        for function in (undoes, not_undone):
            check_wrong(self, function, (U, (0, 1), (1,)), [wrong("kind"), wrong("train"), wrong("train")])
