"""Kinds that do the same, and the least of them [9], [44], and what [3] says of them."""

import itertools
import random
import unittest

from latchroads.kinds import is_kind
from latchroads.leastkinds import do_the_same, least_kind, led_sorts, lone_sort
from tests.helper import U, check_wrong, drawn_kind, left_alike, raised, rows_up_to, spun_kind, told, wrong
from tests.test_kindnumbers import all_kinds

D = (((1, 1), (0, 1)), ((1, 0), (0, 0)), ((0, 2), (1, 2)))


def slow_alike(kind, one, beside, two):
    """Whether two sorts leave all roads alike, of as many latches as there are sorts of both, less one."""
    roads = rows_up_to(len(kind[0]), len(kind) + len(beside) - 1)
    return left_alike(kind, (one,), beside, (two,), roads)


def slow_lone(kind, beside):
    for sort in range(len(kind)):
        if not any(slow_alike(kind, sort, beside, two) for two in range(len(beside))):
            return (0, sort)
    for sort in range(len(beside)):
        if not any(slow_alike(kind, one, beside, sort) for one in range(len(kind))):
            return (1, sort)
    return None


def drawn_two(rng):
    """Two kinds of as many settings that may, or nearly may, do the same."""
    kind = drawn_kind(rng, rng.randint(1, 2), rng.randint(1, 3))
    beside = spun_kind(rng, kind)[:4]
    if rng.random() < 0.5 or not is_kind(beside):
        beside = drawn_kind(rng, len(kind[0]), rng.randint(1, 3))
    return (kind, beside) if rng.random() < 0.5 else (beside, kind)


class LeastKindsTest(unittest.TestCase):

    def test_example(self):
        told(self, """
            >>> D = (((1, 1), (0, 1)), ((1, 0), (0, 0)), ((0, 2), (1, 2)))
            >>> [least_kind(D), led_sorts(D), do_the_same(D, least_kind(D)), lone_sort(U, D), least_kind(U)]
            [(((0, 0), (1, 0)), ((1, 1), (0, 1))), (1, 1, 0), True, (0, 0), (((0, 0), (1, 0)), ((1, 0), (0, 1)))]
            """, dict(U=U, least_kind=least_kind, led_sorts=led_sorts, do_the_same=do_the_same, lone_sort=lone_sort))

    def test_lone_sorts_beside_all_roads(self):
        rng = random.Random(44)
        found = set()
        for _ in range(150):
            kind, beside = drawn_two(rng)
            lone = slow_lone(kind, beside)
            found.add(lone and lone[0])
            self.assertEqual(lone_sort(kind, beside), lone)
            self.assertIs(do_the_same(kind, beside), lone is None)
        self.assertEqual(found, {None, 0, 1})

    def test_least_of_all_kinds(self):
        rng = random.Random(45)
        for settings, sorts in ((1, 1), (1, 3), (2, 1), (2, 2), (2, 2), (2, 2), (3, 1)):
            for _ in range(4):
                first = drawn_kind(rng, settings, sorts)
                kind = spun_kind(rng, first)[:4]
                kind = kind if is_kind(kind) else first
                same = None
                for many in range(1, sorts + 1):
                    same = same or next((k for k in all_kinds(settings, many) if slow_lone(kind, k) is None), None)
                self.assertEqual(least_kind(kind), same)

    def test_three_sorts_named_in_all_ways(self):
        rng = random.Random(46)
        for _ in range(40):
            kind = drawn_kind(rng, rng.randint(2, 6), rng.randint(2, 6))
            least = least_kind(kind)
            named = []
            for order in itertools.permutations(range(len(least))):
                rows = dict(zip(order, least))
                named.append(tuple(tuple((left, order[behind]) for left, behind in rows[sort])
                                   for sort in range(len(least))))
            self.assertEqual(least, min(named))

    def test_what_it_leads_to(self):
        rng = random.Random(47)
        for _ in range(60):
            kind = drawn_kind(rng, rng.randint(1, 2), rng.randint(1, 3))
            least, led = least_kind(kind), led_sorts(kind)
            self.assertEqual((type(led), len(led)), (tuple, len(kind)))
            for sort in range(len(kind)):
                fit = [one for one in range(len(least)) if slow_alike(kind, sort, least, one)]
                self.assertEqual(fit, [led[sort]])

    def test_same_least_kind_just_for_those_that_do_the_same(self):
        rng = random.Random(48)
        for _ in range(150):
            kind, beside = drawn_two(rng)
            self.assertIs(least_kind(kind) == least_kind(beside), do_the_same(kind, beside))
            spun = spun_kind(rng, drawn_kind(rng))
            again = spun_kind(rng, spun)
            self.assertEqual(least_kind(spun), least_kind(again))
            self.assertEqual(least_kind(least_kind(spun)), least_kind(spun))
            self.assertIsNone(lone_sort(spun, again))

    def test_one_and_six(self):
        one = (((0, 0),),)
        self.assertEqual([least_kind(one), led_sorts(one), do_the_same(one, one)], [one, (0,), True])
        self.assertEqual(least_kind((((0, 5),),) * 6), one)
        self.assertEqual(led_sorts((((0, 5),),) * 6), (0,) * 6)
        kind = tuple(tuple(((setting + sort) % 6, sort) for setting in range(6)) for sort in range(6))
        self.assertEqual([least_kind(kind), led_sorts(kind)], [kind, (0, 1, 2, 3, 4, 5)])
        self.assertIs(do_the_same(kind, kind), True)
        self.assertIsNone(lone_sort(U, U))

    def test_sorts_of_the_second_kind_alone(self):
        still = (((0, 0), (1, 0)),)
        self.assertEqual(lone_sort(still, U), (1, 0))
        self.assertEqual(lone_sort(U, still), (0, 0))
        self.assertEqual(lone_sort(still, (((1, 0), (0, 0)),)), (0, 0))

    def test_wrong_arguments(self):
        check_wrong(self, least_kind, (U,), [wrong("kind")])
        check_wrong(self, led_sorts, (U,), [wrong("kind")])
        for function in (do_the_same, lone_sort):
            check_wrong(self, function, (U, U), [wrong("kind"), wrong("beside")])
            check_wrong(self, function, (U, U), [wrong("kind"), wrong("unlike")])
            self.assertEqual(raised(lambda: function((((0, 0),),), U)), "UnlikeSettings")
