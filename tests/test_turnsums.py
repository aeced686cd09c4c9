"""Turns, counts and sums [16], [52], and what [3] says of them."""

import random
import unittest

from latchroads.turnsums import counts_at, counts_come, sum_at, turn_of
from tests.helper import (U, check_wrong, drawn_kind, drawn_train, raised, slow_counts, slow_sorts, slow_sum, told,
                          turning_kind, wrong)

DEEPEST = 10 ** 30
# Its sort 2 does not turn; of the others it comes of none but of 3.
SOME_TURN = (((1, 1), (0, 0)), ((0, 1), (1, 1)), ((0, 2), (0, 2)), ((1, 0), (0, 2)))


def slow_turn(row):
    """The number by which a sort turns, tried out, or None."""
    turns = [by for by in range(len(row)) if all(row[at][0] == (at + by) % len(row) for at in range(len(row)))]
    return turns[0] if turns else None


def deep_counts(kind, train, depth):
    """The counts at a depth by halves of it: a table to the power of the depth."""
    many, sorts = len(kind[0]), range(len(kind))
    power = [[int(r == s) for r in sorts] for s in sorts]
    table = [[sum(1 for _, behind in kind[s] if behind == r) for r in sorts] for s in sorts]

    def times(one, two):
        return [[sum(one[s][q] * two[q][r] for q in sorts) % many for r in sorts] for s in sorts]

    while depth:
        if depth % 2:
            power = times(power, table)
        table, depth = times(table, table), depth // 2
    first = [train.count(sort) for sort in sorts]
    return tuple(sum(first[s] * power[s][r] for s in sorts) % many for r in sorts)


class TurnSumsTest(unittest.TestCase):

    def test_examples(self):
        told(self, """
            >>> Q = (((1, 0), (2, 0), (0, 1)), ((0, 1), (1, 1), (2, 1)))
            >>> [turn_of(U, 0), turn_of((((0, 0), (0, 0)),), 0), counts_at(U, (0, 0, 0), 1), counts_at(Q, (0,), 10 ** 30), sum_at(Q, (0,), 3), counts_come(Q, (0,))]
            [1, None, (1, 1), (1, 2), 2, (1, 2)]
            """, dict(U=U, turn_of=turn_of, counts_at=counts_at, sum_at=sum_at, counts_come=counts_come))

    def test_turns(self):
        rng = random.Random(52)
        found = set()
        for _ in range(300):
            settings, sorts = rng.randint(1, 6), rng.randint(1, 6)
            kind = rng.choice((turning_kind, drawn_kind))(rng, settings, sorts)
            for sort in range(sorts):
                turn = slow_turn(kind[sort])
                self.assertEqual(turn_of(kind, sort), turn)
                found.add((settings, turn))
        self.assertLessEqual({(many, turn) for many in range(2, 7) for turn in [None, *range(many)]}, found)
        self.assertNotIn((1, None), found)

    def test_each_setting_counts(self):
        for at in range(6):
            row = [((setting + 2) % 6, 0) for setting in range(6)]
            self.assertEqual(turn_of((tuple(row),), 0), 2)
            row[at] = ((at + 3) % 6, 0)
            self.assertIsNone(turn_of((tuple(row),), 0))

    def test_beside_slow_reading(self):
        rng = random.Random(53)
        for _ in range(150):
            kind = turning_kind(rng, rng.randint(1, 6), rng.randint(1, 4))
            train = drawn_train(rng, kind, 8)
            for depth in range(8):
                self.assertEqual(counts_at(kind, train, depth), slow_counts(kind, train, depth))
                self.assertEqual(sum_at(kind, train, depth), slow_sum(kind, train, depth))

    def test_other_sorts_need_not_turn(self):
        rng = random.Random(54)
        met = {True: 0, False: 0}
        for _ in range(500):
            kind = drawn_kind(rng, rng.randint(2, 3), rng.randint(2, 5))
            rows = [row if rng.random() < 0.3 else turned for row, turned in
                    zip(kind, turning_kind(rng, len(kind[0]), len(kind)))]
            kind, train = tuple(rows), drawn_train(rng, kind, 3)
            turning = all(slow_turn(kind[sort]) is not None for sort in slow_sorts(kind, train))
            met[turning and None in map(slow_turn, kind)] += 1
            for function, more in ((counts_at, (3,)), (sum_at, (3,)), (counts_come, ())):
                answer = raised(lambda: function(kind, train, *more))
                self.assertIs(answer != "NotTurning", turning)
            if turning:
                self.assertEqual(counts_at(kind, train, 3), slow_counts(kind, train, 3))
                self.assertEqual(sum_at(kind, train, 3), slow_sum(kind, train, 3))
        self.assertGreater(met[True], 30)

    def test_deep(self):
        rng = random.Random(55)
        for _ in range(40):
            kind = turning_kind(rng, rng.randint(1, 6), rng.randint(1, 6))
            train = drawn_train(rng, kind, 60)
            sorts = slow_sorts(kind, train)
            for depth in (0, 1, rng.randrange(1000), rng.randrange(10 ** 6), rng.randrange(DEEPEST), DEEPEST - 1,
                          DEEPEST):
                counts = deep_counts(kind, train, depth)
                self.assertEqual(counts_at(kind, train, depth), counts)
                total = sum(counts[sort] * slow_turn(kind[sort]) for sort in sorts) % len(kind[0])
                self.assertEqual(sum_at(kind, train, depth), total)

    def test_when_counts_come_again(self):
        rng = random.Random(56)
        aheads = set()
        for _ in range(300):
            kind = turning_kind(rng, rng.randint(1, 4), rng.randint(1, 3))
            train = drawn_train(rng, kind, 4)
            all_counts = [slow_counts(kind, train, depth) for depth in range(2 * len(kind[0]) ** len(kind))]
            ahead = next(depth for depth, counts in enumerate(all_counts) if counts in all_counts[depth + 1:])
            later = all_counts[ahead + 1:].index(all_counts[ahead]) + 1
            self.assertEqual(counts_come(kind, train), (ahead, later))
            aheads.add((ahead, later))
        self.assertGreater(len(aheads), 6)
        self.assertGreater(max(aheads)[0], 1)

    def test_counts_that_come_late(self):
        # Five settings and six sorts: counts go through many thousands ahead of coming again.
        kind = (((0, 1), (1, 1), (2, 1), (3, 1), (4, 1)), ((0, 2), (1, 2), (2, 2), (3, 2), (4, 3)),
                ((0, 0), (1, 0), (2, 3), (3, 3), (4, 3)), ((0, 4), (1, 4), (2, 5), (3, 5), (4, 0)),
                ((0, 5), (1, 0), (2, 2), (3, 2), (4, 2)), ((1, 1), (2, 1), (3, 4), (4, 4), (0, 0)))
        ahead, later = counts_come(kind, (0, 0, 3))
        self.assertGreater(later, 100)
        for depth in (ahead, ahead + later, ahead + 7 * later):
            self.assertEqual(counts_at(kind, (0, 0, 3), depth), deep_counts(kind, (0, 0, 3), ahead))
        for less in range(1, later):
            if later % less == 0:
                self.assertNotEqual(deep_counts(kind, (0, 0, 3), ahead + less), deep_counts(kind, (0, 0, 3), ahead))

    def test_like_counts_have_like_sums(self):
        # [3]: two turning trains with the same counts at the depth 0 have the same sums at all depths.
        rng = random.Random(57)
        for _ in range(60):
            kind = turning_kind(rng, rng.randint(1, 6), rng.randint(1, 4))
            train = drawn_train(rng, kind, 5)
            more = list(train) + [rng.randrange(len(kind))] * len(kind[0])
            rng.shuffle(more)
            self.assertEqual(counts_at(kind, tuple(more), 0), counts_at(kind, train, 0))
            for depth in (0, 1, 2, 5, 100, DEEPEST):
                self.assertEqual(sum_at(kind, tuple(more), depth), sum_at(kind, train, depth))

    def test_no_walkers_one_setting_one_sort_six_of_each(self):
        self.assertEqual([counts_at(U, (), 5), sum_at(U, (), DEEPEST), counts_come(U, ())], [(0, 0), 0, (0, 1)])
        self.assertEqual([turn_of((((0, 0),),), 0), counts_at((((0, 0),),), (0,) * 60, 9)], [0, (0,)])
        self.assertEqual([sum_at((((0, 1),), ((0, 0),)), (0, 1, 1), 7), counts_come((((0, 0),),), (0,))], [0, (0, 1)])
        one = (((5, 0), (0, 0), (1, 0), (2, 0), (3, 0), (4, 0)),)
        self.assertEqual([turn_of(one, 0), counts_at(one, (0,) * 7, 0), sum_at(one, (0,) * 7, 0)], [5, (1,), 5])
        self.assertEqual([counts_at(one, (0,) * 7, 1), counts_come(one, (0,))], [(0,), (1, 1)])
        six = tuple(tuple(((setting + sort) % 6, sort) for setting in range(6)) for sort in range(6))
        self.assertEqual([counts_at(six, (0, 1, 1, 5), 0), sum_at(six, (0, 1, 1, 5), 0)], [(1, 2, 0, 0, 0, 1), 1])
        self.assertEqual(counts_come(six, (0, 1, 1, 5)), (1, 1))
        self.assertEqual([turn_of(six, sort) for sort in range(6)], [0, 1, 2, 3, 4, 5])

    def test_not_turning_stands_behind_the_train(self):
        for function in (counts_at, sum_at):
            for depth in (0, -1, None, DEEPEST + 1):
                self.assertEqual(raised(lambda: function(SOME_TURN, (3,), depth)), "NotTurning")
                self.assertEqual(raised(lambda: function(SOME_TURN, (0, 2), depth)), "NotTurning")
                self.assertEqual(raised(lambda: function(SOME_TURN, (2, 4), depth)), "InvalidTrain")
        self.assertEqual(raised(lambda: counts_come(SOME_TURN, (1, 3))), "NotTurning")
        self.assertEqual(counts_come(SOME_TURN, (0, 1)), counts_come(U, (0, 1)))
        self.assertEqual(counts_at(SOME_TURN, (0, 0, 0), 1), (1, 1, 0, 0))
        self.assertEqual(sum_at(SOME_TURN, (0,), 4), sum_at(U, (0,), 4))

    def test_wrong_arguments(self):
        check_wrong(self, turn_of, (U, 0), [wrong("kind"), wrong("sort")])
        for function in (counts_at, sum_at):
            check_wrong(self, function, (U, (0, 1), 4), [wrong("kind"), wrong("train"), wrong("number", 0, DEEPEST)])
        check_wrong(self, counts_come, (U, (0, 1)), [wrong("kind"), wrong("train")])
