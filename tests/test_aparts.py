"""Latches at which trains are apart [14], [48], and what [3] says of them."""

import random
import unittest

from latchroads.aparts import apart_at, last_apart, pumped_road
from tests.helper import (KIND_1000, KIND_1001, TRAIN_1000, TRAIN_1001, U, all_rows, check_wrong_pair, drawn_pair,
                          raised, slow_left, slow_pairs, told, wrong)

V = (((1, 1), (0, 1)), ((0, 1), (1, 1)))


def slow_apart(kind, train, beside, other, index):
    """Whether some road, of just so many latches and one, has its last one left unlike."""
    return any(slow_left(kind, train, road)[-1] != slow_left(beside, other, road)[-1]
               for road in all_rows(len(kind[0]), index + 1))


def is_pumped(kind, train, beside, other, value, times):
    """Whether a value is a pumped road, tried for all numbers of times up to one."""
    if not isinstance(value, tuple) or len(value) != 3:
        return False
    road, ring, tail = value
    for part in value:
        if type(part) is not tuple or len(part) > 1000 or not all(type(s) is int and 0 <= s < len(kind[0]) for s in part):
            return False
    if not ring or not tail:
        return False
    return all(slow_left(kind, train, whole)[-1] != slow_left(beside, other, whole)[-1]
               for whole in (road + ring * many + tail for many in range(times + 1)))


class ApartsTest(unittest.TestCase):

    def test_example(self):
        told(self, """
            >>> V = (((1, 1), (0, 1)), ((0, 1), (1, 1)))
            >>> [apart_at(U, (0, 0), U, (1, 1), 0), apart_at(U, (0, 0), U, (1, 1), 1), last_apart(U, (0,), U, (1,)), last_apart(V, (0,), V, (1,)), last_apart(U, (0, 1), U, (1, 0)), pumped_road(V, (0,), V, (1,))]
            [False, True, None, 0, -1, None]
            """, dict(U=U, apart_at=apart_at, last_apart=last_apart, pumped_road=pumped_road))

    def test_beside_all_roads(self):
        rng = random.Random(48)
        found = {}
        for _ in range(500):
            case = drawn_pair(rng, 5)
            pairs = len(slow_pairs(*case))
            # Trains apart at an index from the number of pairs on are so at ones as great as one likes.
            apart = [index for index in range(2 * pairs) if slow_apart(*case, index)]
            for index in range(2 * pairs):
                self.assertIs(apart_at(*case, index), index in apart)
            last = -1 if not apart else None if apart[-1] >= pairs else apart[-1]
            found[last] = found.get(last, 0) + 1
            self.assertEqual(last_apart(*case), last)
            pumped = pumped_road(*case)
            if last is None:
                self.assertTrue(is_pumped(*case, pumped, 2 * pairs))
            else:
                self.assertIsNone(pumped)
        self.assertLessEqual({None, -1, 0}, set(found))

    def test_last_ones_beside_all_roads(self):
        for last in range(5):
            # Sorts up to the last but one pass on as the next one; this turns, the last one does not.
            kind = tuple(((0, sort + 1), (1, sort + 1)) for sort in range(last))
            kind += (((1, last + 1), (1, last + 1)), ((0, last + 1), (1, last + 1)))
            case = (kind, (0,), kind, ())
            for index in range(8):
                self.assertIs(apart_at(*case, index), slow_apart(*case, index))
                self.assertIs(apart_at(*case, index), index == last)
            self.assertEqual(last_apart(*case), last)
            self.assertIsNone(pumped_road(*case))

    def test_more_settings_and_pairs(self):
        rng = random.Random(49)
        for _ in range(120):
            case = drawn_pair(rng, 30, 4)
            pairs = len(slow_pairs(*case))
            last, pumped = last_apart(*case), pumped_road(*case)
            apart = [index for index in range(2 * pairs) if apart_at(*case, index)]
            for index in range(4 if len(case[0][0]) < 4 else 3):
                self.assertIs(apart_at(*case, index), slow_apart(*case, index))
            if last is None:
                self.assertGreaterEqual(apart[-1], pairs)
                self.assertTrue(is_pumped(*case, pumped, pairs + 1))
            else:
                self.assertEqual(last, apart[-1] if apart else -1)
                self.assertIsNone(pumped)

    def test_greatest_indices(self):
        self.assertIs(apart_at(U, (0,), U, (1,), 400), True)
        self.assertIs(apart_at(U, (0,), U, (1,), 0), True)
        self.assertIs(apart_at(V, (0,), V, (1,), 400), False)
        self.assertIs(apart_at(V, (0,), V, (1,), 0), True)
        ring = (((0, 1), (0, 1)), ((1, 0), (1, 0)))
        self.assertIs(apart_at(ring, (0,), ring, (1,), 400), True)
        two = (((0, 1), (1, 1)), ((1, 0), (0, 0)))
        for index in (0, 1, 399, 400):
            self.assertIs(apart_at(two, (0,), two, (), index), index % 2 == 1)
        self.assertIsNone(last_apart(two, (0,), two, ()))

    def test_a_long_way_to_the_last_one(self):
        chain = tuple(((0, min(sort + 1, 5)), (1 if sort != 4 else 0, min(sort + 1, 5))) for sort in range(6))
        self.assertEqual(last_apart(chain, (0,), chain, ()), 4)
        self.assertEqual(last_apart(chain, (0,), chain, (0,)), -1)
        self.assertEqual(last_apart(chain, (0,), chain, (1,)), 4)
        self.assertEqual([apart_at(chain, (0,), chain, (), index) for index in range(7)],
                         [False, False, False, False, True, False, False])

    def test_a_ring_that_does_not_part_leaves_no_pumped_road(self):
        # The ring of the sort 1 can not be left, and parts nothing.
        kind = (((1, 1), (1, 1)), ((0, 1), (1, 1)))
        self.assertEqual(last_apart(kind, (0,), kind, ()), 0)
        self.assertIsNone(pumped_road(kind, (0,), kind, ()))

    def test_a_ring_ahead_of_what_parts(self):
        kind = (((0, 0), (1, 1)), ((1, 2), (0, 2)), ((0, 2), (1, 2)))
        case = (kind, (0,), kind, ())
        self.assertIsNone(last_apart(*case))
        self.assertTrue(is_pumped(*case, pumped_road(*case), 20))
        self.assertFalse(is_pumped(*case, ((), (1,), (0,)), 20))

    def test_limit_just_kept(self):
        case = (KIND_1000, TRAIN_1000, KIND_1000, ())
        self.assertIs(apart_at(*case, 400), True)
        self.assertIsNone(last_apart(*case))
        self.assertTrue(is_pumped(*case, pumped_road(*case), 3))
        self.assertEqual(last_apart(KIND_1000, TRAIN_1000, KIND_1000, TRAIN_1000), -1)

    def test_limit_just_passed(self):
        for case in ((KIND_1001, TRAIN_1001, KIND_1001, ()), (KIND_1001, (), KIND_1001, TRAIN_1001)):
            self.assertEqual(raised(lambda: apart_at(*case, 0)), "TooMany(1000)")
            self.assertEqual(raised(lambda: last_apart(*case)), "TooMany(1000)")
            self.assertEqual(raised(lambda: pumped_road(*case)), "TooMany(1000)")
            self.assertEqual(raised(lambda: apart_at(*case, 401)), "InvalidNumber")
            self.assertEqual(raised(lambda: apart_at(*case[:3], (4,), 401)), "InvalidTrain")

    def test_nothing_goes(self):
        self.assertIs(apart_at(U, (), V, (), 0), False)
        self.assertEqual(last_apart(U, (), V, ()), -1)
        self.assertIsNone(pumped_road(U, (), V, ()))
        one = (((0, 0),),)
        self.assertEqual(last_apart(one, (0,), one, ()), -1)

    def test_six_of_each(self):
        kind = tuple(tuple(((setting + 1) % 6, (sort + 1) % 6) for setting in range(6)) for sort in range(6))
        self.assertIsNone(last_apart(kind, (0,) * 60, kind, (0,)))
        self.assertTrue(is_pumped(kind, (0,) * 60, kind, (0,), pumped_road(kind, (0,) * 60, kind, (0,)), 5))
        self.assertEqual(last_apart(kind, (0,) * 60, kind, (5,) * 6), -1)

    def test_wrong_arguments(self):
        check_wrong_pair(self, apart_at, (U, (0,), V, (1,), 3), [wrong("number", 0, 400)])
        check_wrong_pair(self, last_apart, (U, (0,), V, (1,)))
        check_wrong_pair(self, pumped_road, (U, (0,), V, (1,)))
