"""Roads that trains leave alike [12], [49]."""

import random
import unittest

from latchroads.likeroads import count_like_roads, like_road
from tests.helper import (KIND_1000, KIND_1001, TRAIN_1000, TRAIN_1001, U, all_rows, check_wrong_pair, drawn_pair,
                          left_alike, raised, slow_passed, told, wrong)

W = (((1, 1), (1, 0)), ((0, 1), (1, 1)))


def slow_count(kind, train, beside, other, number):
    """How many roads are left alike, told from the last latch on, for each pair of trains once."""
    known = {}
    todo = [((train, other), number)]
    while todo:
        (one, two), left = todo[-1]
        if left == 0:
            known[todo.pop()] = 1
            continue
        ways = [(slow_passed(kind, one, (s,)), slow_passed(beside, two, (s,))) for s in range(len(kind[0]))]
        next_ones = [((first[1], second[1]), left - 1) for first, second in ways if first[0] == second[0]]
        missing = [case for case in next_ones if case not in known]
        todo += missing
        if not missing:
            known[todo.pop()] = sum(known[case] for case in next_ones)
    return known[(train, other), number]


class LikeRoadsTest(unittest.TestCase):

    def test_example(self):
        told(self, """
            >>> W = (((1, 1), (1, 0)), ((0, 1), (1, 1)))
            >>> [count_like_roads(U, (0, 0), U, (1, 1), number) for number in (0, 1, 2)], [count_like_roads(W, (0,), W, (1,), number) for number in (0, 1, 5)], like_road(W, (0,), W, (1,), 3)
            ([1, 2, 0], [1, 1, 1], (1, 1, 1))
            """, dict(U=U, count_like_roads=count_like_roads, like_road=like_road))

    def test_beside_all_roads(self):
        rng = random.Random(49)
        found = set()
        for _ in range(200):
            case = drawn_pair(rng, 100, 3)
            for number in range(6 if len(case[0][0]) < 3 else 5):
                roads = [road for road in all_rows(len(case[0][0]), number) if left_alike(*case, [road])]
                self.assertEqual(count_like_roads(*case, number), len(roads))
                self.assertEqual(like_road(*case, number), roads[0] if roads else None)
                found.add((number, min(len(roads), 2)))
        self.assertLessEqual({(4, 0), (4, 1), (4, 2)}, found)

    def test_many_latches(self):
        rng = random.Random(50)
        for _ in range(25):
            case = drawn_pair(rng, 12, 3)
            for number in (0, 1, 59, 60, 400):
                many = slow_count(*case, number)
                self.assertEqual(count_like_roads(*case, number), many)
                road = like_road(*case, number)
                self.assertIs(road is None, many == 0)
                if road is not None:
                    self.assertEqual(len(road), number)
                    self.assertTrue(number > 60 or left_alike(*case, [road]))

    def test_number_of_0_and_400(self):
        self.assertEqual(count_like_roads(U, (1,), U, (), 400), 2 ** 400)
        self.assertEqual(like_road(U, (1,), U, (), 400), (0,) * 400)
        self.assertEqual(count_like_roads(U, (0,), U, (), 400), 0)
        self.assertIsNone(like_road(U, (0,), U, (), 400))
        self.assertEqual(count_like_roads(W, (0,), W, (1,), 400), 1)
        self.assertEqual(like_road(W, (0,), W, (1,), 400), (1,) * 400)
        six = tuple(tuple((setting, sort) for setting in range(6)) for sort in range(6))
        self.assertEqual(count_like_roads(six, (0,) * 60, six, (5,) * 60, 400), 6 ** 400)
        for case in ((U, (0,), U, ()), (W, (0,), W, (1,)), (U, (), U, ()), ((((0, 0),),), (), (((0, 0),),), (0,))):
            self.assertEqual(count_like_roads(*case, 0), 1)
            self.assertEqual(like_road(*case, 0), ())

    def test_roads_that_end(self):
        # The sort 5 alone turns; both walkers are of it behind the fifth latch.
        chain = tuple(((0 if sort < 5 else 1, min(sort + 1, 5)), (1, min(sort + 1, 5))) for sort in range(6))
        self.assertEqual([count_like_roads(chain, (0,), chain, (1,), number) for number in range(7)],
                         [1, 2, 4, 8, 16, 16, 32])
        self.assertEqual(like_road(chain, (0,), chain, (1,), 5), (0, 0, 0, 0, 1))
        # From the sort 2 on all latches are turned, so nothing is left alike behind two of them.
        ends = (((0, 1), (1, 2)), ((0, 2), (1, 2)), ((1, 2), (0, 2)))
        self.assertEqual([count_like_roads(ends, (0,), ends, (), number) for number in range(5)], [1, 2, 2, 0, 0])
        self.assertEqual([like_road(ends, (0,), ends, (), number) for number in range(5)],
                         [(), (0,), (0, 0), None, None])

    def test_limit(self):
        self.assertEqual(count_like_roads(KIND_1000, TRAIN_1000, KIND_1000, TRAIN_1000, 400), 2 ** 400)
        self.assertEqual(like_road(KIND_1000, TRAIN_1000, KIND_1000, TRAIN_1000, 400), (0,) * 400)
        for function in (count_like_roads, like_road):
            for case in ((KIND_1001, TRAIN_1001, KIND_1001, ()), (KIND_1001, (), KIND_1001, TRAIN_1001)):
                self.assertEqual(raised(lambda: function(*case, 0)), "TooMany(1000)")
                self.assertEqual(raised(lambda: function(*case, 400)), "TooMany(1000)")
                self.assertEqual(raised(lambda: function(*case, 401)), "InvalidNumber")

    def test_wrong_arguments(self):
        for function in (count_like_roads, like_road):
            check_wrong_pair(self, function, (U, (0,), W, (1,), 3), [wrong("number", 0, 400)])
