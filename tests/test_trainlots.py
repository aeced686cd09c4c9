"""Lots of trains that are alike at a number [32], [74], and what [3] says of them."""

import random
import unittest

from latchroads.trainlots import classes_at, number_apart
from tests.helper import (FEW_1000, FEW_1001, STILL_1000, STILL_1001, U, all_rows, check_new_list, check_wrong,
                          drawn_kind, drawn_lot, mixed_kind, raised, slow_coming, slow_left, slow_lot_coming, told,
                          wrong)


def slow_classes(kind, lot, number):
    """The classes of the trains of a lot by what they leave each road of so many latches as."""
    roads = all_rows(len(kind[0]), number)
    classes = {}
    for train in sorted(lot):
        classes.setdefault(tuple(slow_left(kind, train, road) for road in roads), []).append(train)
    return sorted(tuple(found) for found in classes.values())


class TrainlotsTest(unittest.TestCase):

    def test_example(self):
        told(self, """
            >>> A = ((), (0,), (0, 0), (0, 0, 0))
            >>> [classes_at(U, A, 1), number_apart(U, A), number_apart(U, ((0, 1), (1, 0))), classes_at(U, ((0,), (1, 0)), 60)]
            [[((), (0, 0)), ((0,), (0, 0, 0))], 2, 0, [((0,), (1, 0))]]
            """, dict(U=U, classes_at=classes_at, number_apart=number_apart))

    def test_beside_all_roads(self):
        rng = random.Random(74)
        found = {}
        for _ in range(400):
            settings = rng.randint(1, 3)
            kind, lot = drawn_lot(rng, settings, rng.randint(1, 4), 3, rng.randint(1, 8))
            most = {1: 4, 2: 6, 3: 4}[settings]
            classes = [slow_classes(kind, lot, number) for number in range(most + 1)]
            for number in range(most + 1):
                self.assertEqual(classes_at(kind, lot, number), classes[number])
            apart = number_apart(kind, lot)
            # [3]: they are told apart by roads of fewer latches than there are trains that come of them.
            coming = len(slow_lot_coming(kind, lot))
            self.assertLess(apart, max(coming, 1))
            lasting = classes_at(kind, lot, min(coming, 60))
            self.assertEqual(classes_at(kind, lot, 60), lasting)
            if coming <= most:
                self.assertEqual(lasting, classes[most])
            for number in range(most + 1):
                self.assertIs(classes[number] == lasting, number >= apart, (kind, lot, number))
            found[apart] = found.get(apart, 0) + 1
        self.assertTrue(all(found.get(apart, 0) > 5 for apart in (0, 1, 2)), found)

    def test_lots_that_are_told_apart_late(self):
        # Walkers of later sorts turn a latch so much earlier.
        for many in range(2, 7):
            kind = tuple(((0, sort + 1), (1, sort + 1)) for sort in range(many - 1)) + (((1, many - 1), (0, many - 1)),)
            lot = ((many - 1,),) + tuple((sort,) for sort in range(many - 1))
            self.assertEqual(number_apart(kind, lot), many - 1)
            for number in range(many):
                self.assertEqual(classes_at(kind, lot, number), slow_classes(kind, lot, number))
            self.assertEqual(number_apart(kind, lot[1:2] + lot[:1]), 1)
            if many > 2:
                self.assertEqual(number_apart(kind, ((0,), (1,))), many - 1)
                self.assertEqual(classes_at(kind, ((0,), (1,)), many - 2), [((0,), (1,))])

    def test_the_lot_alone_is_looked_at(self):
        # What comes of the trains is told apart later than these are, by turns that change nothing of it.
        kind = (((1, 2), (0, 2)), ((0, 3), (1, 3)), ((0, 3), (1, 4)), ((0, 4), (1, 4)), ((1, 4), (0, 4)))
        self.assertEqual(number_apart(kind, ((0,), (1,))), 1)
        self.assertEqual(slow_classes(kind, ((0,), (1,)), 1), classes_at(kind, ((0,), (1,)), 1))
        self.assertEqual(number_apart(kind, ((2,), (3,))), 2)

    def test_sizes_of_lots(self):
        rng = random.Random(75)
        self.assertEqual([classes_at(U, ((),), 60), number_apart(U, ((),))], [[((),)], 0])
        self.assertEqual([classes_at(U, ((0, 1) * 3,), 0), number_apart(U, ((0, 1) * 3,))], [[((0, 1) * 3,)], 0])
        rows = [row for many in range(5) for row in all_rows(2, many)]
        for _ in range(20):
            lot = tuple(rng.sample(rows, 12))
            for number in (0, 1, 2, 3):
                self.assertEqual(classes_at(U, lot, number), slow_classes(U, lot, number))
            self.assertEqual(classes_at(U, lot, 60), slow_classes(U, lot, 5))
        one = (((0, 1),), ((0, 0),))
        self.assertEqual([classes_at(one, ((0,), ()), 60), number_apart(one, ((0,), ()))], [[((), (0,))], 0])
        six = drawn_kind(rng, 6, 6)
        lot = tuple((sort,) for sort in range(6)) + ((0, 1), (1, 0))
        for number in (0, 1, 2):
            self.assertEqual(classes_at(six, lot, number), slow_classes(six, lot, number))

    def test_limit(self):
        for kind, train in (FEW_1001, STILL_1001):
            self.assertEqual(raised(lambda: classes_at(kind, (train,), 0)), "TooMany(1000)")
            self.assertEqual(raised(lambda: number_apart(kind, ((), train))), "TooMany(1000)")
            self.assertEqual(raised(lambda: classes_at(kind, (train,), 61)), "InvalidNumber")
            self.assertEqual(raised(lambda: classes_at(kind, (train, train), 0)), "InvalidLot")
        for kind, train in (FEW_1000, STILL_1000):
            self.assertEqual([classes_at(kind, (train,), 60), number_apart(kind, (train,))], [[(train,)], 0])
            # Of the lot 1000 trains come in all if the others of it come of this one.
            others = tuple(slow_coming(kind, train)[:3])
            self.assertEqual(classes_at(kind, others, 0), [tuple(sorted(others))])
            self.assertEqual(raised(lambda: classes_at(kind, (train, ()), 0)), "TooMany(1000)")
            self.assertEqual(raised(lambda: number_apart(kind, (train, ()))), "TooMany(1000)")

    def test_lists_are_new(self):
        check_new_list(self, classes_at, U, ((0,), (1, 0)), 3)

    def test_wrong_arguments(self):
        lot = ((0,), (1, 0))
        check_wrong(self, classes_at, (U, lot, 3), [wrong("kind"), wrong("lot"), wrong("number", 0, 60)])
        check_wrong(self, number_apart, (U, lot), [wrong("kind"), wrong("lot")])

    def test_mixed_kinds(self):
        rng = random.Random(76)
        for _ in range(60):
            kind = mixed_kind(rng, 2, 6)
            lot = tuple({tuple(rng.randrange(6) for _ in range(rng.randint(0, 2))) for _ in range(6)})
            for number in range(5):
                self.assertEqual(classes_at(kind, lot, number), slow_classes(kind, lot, number))
