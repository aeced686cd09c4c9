"""Turns that are wished for [55]."""

import random
import unittest

from latchroads.turnwishes import count_turns, first_turns, wished_kind
from tests.helper import (SPOILT, U, all_rows, check_wrong, drawn_kind, drawn_train, raised, slow_rounds, slow_short,
                          slow_sorts, told, wrong)


def slow_wished(kind, sorts, turns):
    """The wished kind: the sorts, each in its place, turn by their numbers."""
    rows = [list(row) for row in kind]
    for place, sort in enumerate(sorts):
        for setting in range(len(kind[0])):
            rows[sort][setting] = ((setting + turns[place]) % len(kind[0]), kind[sort][setting][1])
    return tuple(tuple(row) for row in rows)


def slow_turns(kind, train):
    """All turns that make the train one that brings roads of all lengths round in one."""
    sorts = slow_sorts(kind, train)
    return [turns for turns in all_rows(len(kind[0]), len(sorts))
            if slow_short(slow_wished(kind, sorts, turns), train) is None]


class TurnWishesTest(unittest.TestCase):

    def test_example(self):
        told(self, """
            >>> Q = (((1, 0), (2, 0), (0, 1)), ((0, 1), (1, 1), (2, 1)))
            >>> [count_turns(U, (0,)), first_turns(U, (0,)), first_turns(U, ()), wished_kind(U, (1,), (1,)), count_turns(Q, (0,))]
            [1, (1, 0), None, (((1, 1), (0, 0)), ((1, 1), (0, 1))), 4]
            """, dict(U=U, count_turns=count_turns, first_turns=first_turns, wished_kind=wished_kind))

    def test_beside_all_turns(self):
        rng = random.Random(55)
        many = set()
        for _ in range(150):
            kind = drawn_kind(rng, rng.randint(1, 4), rng.randint(1, 3))
            train = drawn_train(rng, kind, 4)
            found = slow_turns(kind, train)
            self.assertEqual(count_turns(kind, train), len(found))
            self.assertEqual(first_turns(kind, train), found[0] if found else None)
            many.add(len(found))
        self.assertGreater(len(many), 5)

    def test_wished_trains_bring_round(self):
        rng = random.Random(56)
        for _ in range(60):
            kind = drawn_kind(rng, rng.randint(2, 3), rng.randint(1, 4))
            train = drawn_train(rng, kind, 3)
            turns = first_turns(kind, train)
            if turns is not None:
                wished = wished_kind(kind, train, turns)
                for latches in range(5):
                    self.assertEqual(len(slow_rounds(wished, train, latches)), 1)

    def test_wished_kinds(self):
        rng = random.Random(57)
        kept = 0
        for _ in range(200):
            kind = drawn_kind(rng)
            train = drawn_train(rng, kind, 3)
            sorts = slow_sorts(kind, train)
            turns = tuple(rng.randrange(len(kind[0])) for _ in sorts)
            wished = wished_kind(kind, train, turns)
            self.assertEqual(wished, slow_wished(kind, sorts, turns))
            for sort in range(len(kind)):
                if sort not in sorts:
                    self.assertEqual(wished[sort], kind[sort])
                    kept += 1
        self.assertGreater(kept, 50)

    def test_any_train_will_do(self):
        # The sorts do not turn, and lose.
        kind = (((0, 1), (0, 0)), ((1, 1), (1, 1)))
        self.assertEqual([count_turns(kind, (0,)), first_turns(kind, (0,))], [1, (1, 0)])
        self.assertEqual(wished_kind(kind, (0,), (1, 0)), U)

    def test_nothing_goes_one_setting_one_sort(self):
        self.assertEqual([count_turns(U, ()), first_turns(U, ()), wished_kind(U, (), ())], [0, None, U])
        one = (((0, 1),), ((0, 0),))
        for kind, train, turns in ((one, (), ()), (one, (1,), (0, 0)), ((((0, 0),),), (0,) * 60, (0,))):
            self.assertEqual([count_turns(kind, train), first_turns(kind, train)], [1, turns])
            self.assertEqual(wished_kind(kind, train, turns), kind)
        still = (((0, 0), (0, 0), (0, 0)),)
        self.assertEqual([count_turns(still, (0,)), first_turns(still, (0,))], [0, None])

    def test_sixty_walkers_and_order_of_sorts(self):
        kind = (((0, 0), (0, 0)), ((0, 2), (0, 1)), ((0, 2), (1, 2)))
        # The sort 1 stands ahead of 2 in turns, whatever the order of the walkers.
        for train in ((1,), (2, 1, 2), (1, 2, 2), (2, 2) * 29 + (2, 1)):
            self.assertEqual(first_turns(kind, train), slow_turns(kind, train)[0])
            self.assertEqual(wished_kind(kind, train, (1, 0)), (kind[0], ((1, 2), (0, 1)), ((0, 2), (1, 2))))
            self.assertEqual(wished_kind(kind, train, (0, 1)), (kind[0], ((0, 2), (1, 1)), ((1, 2), (0, 2))))

    def test_limit(self):
        kept = {1: 6, 2: 6, 3: 6, 4: 4, 5: 4, 6: 3}
        for settings in range(1, 7):
            for sorts in range(1, 7):
                # Of a walker of the sort 0 so many sorts come, there are six.
                kind = tuple(tuple((0, (sort + (setting == 0)) % sorts if sort < sorts else sort)
                                   for setting in range(settings)) for sort in range(6))
                if settings == 1:
                    kind = tuple(((0, (sort + 1) % sorts if sort < sorts else sort),) for sort in range(6))
                self.assertEqual(slow_sorts(kind, (0,)), list(range(sorts)))
                answers = [raised(lambda: count_turns(kind, (0,))), raised(lambda: first_turns(kind, (0,)))]
                if sorts > kept[settings]:
                    self.assertEqual(answers, ["TooMany(729)"] * 2)
                    self.assertEqual(raised(lambda: count_turns(kind, (0, 6))), "InvalidTrain")
                else:
                    self.assertNotIn("TooMany(729)", answers)
                turns = (settings - 1,) * sorts
                self.assertEqual(wished_kind(kind, (0,), turns), slow_wished(kind, list(range(sorts)), turns))

    def test_just_kept(self):
        rng = random.Random(58)
        for settings, sorts in ((3, 6), (2, 6), (5, 4), (4, 4), (6, 3)):
            kind = drawn_kind(rng, settings, sorts)
            sorts = slow_sorts(kind, tuple(range(sorts)))
            train = tuple(sorts)
            found = slow_turns(kind, train) if settings ** len(sorts) < 100 else None
            if found is not None:
                self.assertEqual(count_turns(kind, train), len(found))
            first = first_turns(kind, train)
            if first is not None:
                self.assertIsNone(slow_short(slow_wished(kind, sorts, first), train))

    def test_wrong_arguments(self):
        for function in (count_turns, first_turns):
            check_wrong(self, function, (U, (0,)), [wrong("kind"), wrong("train")])
        bad = SPOILT + [0, 1, (0,), (2, 0), (0, 2), (0, -1), (0, True), (0, None), [0, 1], (0, 1, 0), "01", U, (0,) * 60]
        check_wrong(self, wished_kind, (U, (0,), (1, 0)), [wrong("kind"), wrong("train"), ("InvalidTurns", bad)])
        for turns in ((), (0, 1), (2,), (1, 1, 1), None, [1]):
            self.assertEqual(raised(lambda: wished_kind(U, (1,), turns)), "InvalidTurns")
        self.assertEqual(raised(lambda: wished_kind(U, (), (0,))), "InvalidTurns")
