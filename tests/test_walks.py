"""Walks [5], [38], and what [3] says of them."""

import random
import unittest

from latchroads.walks import passed, passed_latch, steps_of
from tests.helper import (U, check_new_list, check_wrong, drawn_kind, drawn_road, drawn_train, slow_coming,
                          slow_passed, told, wrong)


def slow_steps(kind, train, road):
    """The steps latch by latch, and for each walker by walker, put in the order of walkers."""
    steps = []
    sorts = list(train)
    for latch, setting in enumerate(road):
        for walker, sort in enumerate(sorts):
            left, behind = kind[sort][setting]
            steps.append((walker, latch, sort, setting, left, behind))
            setting = left
            sorts[walker] = behind
    return sorted(steps)


class WalksTest(unittest.TestCase):

    def test_examples(self):
        told(self, """
            >>> [passed(U, (0,), (1, 1, 0)), passed(U, (0, 0, 0), (0, 0)), passed(U, (0, 1), ()), passed_latch(U, (0, 0), 1)]
            [((0, 0, 1), (1,)), ((1, 1), (1, 1, 1)), ((), (0, 1)), (1, (0, 1))]
            >>> steps_of(U, (0, 1), (1, 0))
            [(0, 0, 0, 1, 0, 0), (0, 1, 0, 0, 1, 1), (1, 0, 1, 0, 0, 1), (1, 1, 1, 1, 1, 1)]
            """, dict(U=U, passed=passed, passed_latch=passed_latch, steps_of=steps_of))

    def test_beside_slow_reading(self):
        rng = random.Random(5)
        for _ in range(300):
            kind = drawn_kind(rng)
            train, road = drawn_train(rng, kind, 8), drawn_road(rng, kind, 8)
            self.assertEqual(passed(kind, train, road), slow_passed(kind, train, road))
            self.assertEqual(steps_of(kind, train, road), slow_steps(kind, train, road))

    def test_one_latch(self):
        rng = random.Random(6)
        for _ in range(200):
            kind = drawn_kind(rng)
            train = drawn_train(rng, kind, 9)
            for setting in range(len(kind[0])):
                (left,), out = slow_passed(kind, train, (setting,))
                self.assertEqual(passed_latch(kind, train, setting), (left, out))

    def test_sixty_of_each(self):
        rng = random.Random(7)
        for sizes in ((6, 6), (1, 6), (6, 1), (1, 1), (2, 2)):
            kind = drawn_kind(rng, *sizes)
            train = tuple(rng.randrange(len(kind)) for _ in range(60))
            road = tuple(rng.randrange(len(kind[0])) for _ in range(60))
            self.assertEqual(passed(kind, train, road), slow_passed(kind, train, road))
            steps = steps_of(kind, train, road)
            self.assertEqual(len(steps), 3600)
            self.assertEqual(steps, slow_steps(kind, train, road))

    def test_nothing_to_go_through(self):
        self.assertEqual(passed(U, (), ()), ((), ()))
        self.assertEqual(passed(U, (), (1, 0)), ((1, 0), ()))
        self.assertEqual(passed(U, (1, 0), ()), ((), (1, 0)))
        self.assertEqual(passed_latch(U, (), 1), (1, ()))
        self.assertEqual(steps_of(U, (), (1, 0)), [])
        self.assertEqual(steps_of(U, (0, 1), ()), [])

    def test_one_setting_and_one_sort(self):
        self.assertEqual(passed((((0, 1),), ((0, 0),)), (0, 1), (0, 0, 0)), ((0, 0, 0), (1, 0)))
        self.assertEqual(passed((((1, 0), (0, 0)),), (0, 0, 0), (0, 1)), ((1, 0), (0, 0, 0)))
        self.assertEqual(passed((((0, 0),),), (0,), (0,)), ((0,), (0,)))

    def test_two_roads_as_one(self):
        rng = random.Random(8)
        for _ in range(100):
            kind = drawn_kind(rng)
            train, first, second = (drawn_train(rng, kind, 6), drawn_road(rng, kind, 6), drawn_road(rng, kind, 6))
            left, between = passed(kind, train, first)
            behind, out = passed(kind, between, second)
            self.assertEqual(passed(kind, train, first + second), (left + behind, out))

    def test_two_trains_as_one(self):
        rng = random.Random(9)
        for _ in range(100):
            kind = drawn_kind(rng)
            one, two, road = drawn_train(rng, kind, 6), drawn_train(rng, kind, 6), drawn_road(rng, kind, 6)
            left, first = passed(kind, one, road)
            behind, second = passed(kind, two, left)
            self.assertEqual(passed(kind, one + two, road), (behind, first + second))

    def test_what_comes_out_comes(self):
        rng = random.Random(10)
        for _ in range(60):
            kind = drawn_kind(rng, rng.randint(1, 3), rng.randint(1, 3))
            train = drawn_train(rng, kind, 3)
            coming = slow_coming(kind, train)
            for _ in range(20):
                self.assertIn(passed(kind, train, drawn_road(rng, kind, 20))[1], coming)

    def test_kinds_of_values(self):
        self.assertEqual(repr(passed(U, (0,), (0,))), "((1,), (1,))")
        check_new_list(self, steps_of, U, (0, 1), (0, 1, 1))

    def test_wrong_arguments(self):
        rows = [wrong("kind"), wrong("train"), wrong("road")]
        check_wrong(self, passed, (U, (0, 1), (1, 0)), rows)
        check_wrong(self, steps_of, (U, (0, 1), (1, 0)), rows)
        check_wrong(self, passed_latch, (U, (0, 1), 1), [wrong("kind"), wrong("train"), wrong("setting")])
