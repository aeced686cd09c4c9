"""Trains that leave all roads alike [12], [13], [47], and what [3] says of them."""

import random
import unittest

from latchroads.alikes import alike_lot, are_alike, is_closed_lot, pairs_of, parting_road
from latchroads.errors import InvalidText
from tests.helper import (KIND_1000, KIND_1001, SPOILT, TRAIN_1000, TRAIN_1001, U, all_rows, check_wrong,
                          check_wrong_pair, drawn_pair, drawn_train, left_alike, raised, rows_up_to, slow_pairs,
                          slow_passed, spun_kind, told, wrong)

STILL = (((0, 0), (1, 0)), ((0, 1), (1, 1)))
FUNCTIONS = (pairs_of, are_alike, alike_lot, parting_road)


def slow_closed(kind, beside, value):
    """Whether pairs of trains are a closed lot, by the words of [13]."""
    return len(value) <= 1000 and list(value) == sorted(set(value)) and all(
        slow_passed(kind, one, (setting,))[0] == slow_passed(beside, two, (setting,))[0]
        and (slow_passed(kind, one, (setting,))[1], slow_passed(beside, two, (setting,))[1]) in value
        for one, two in value for setting in range(len(kind[0])))


class AlikesTest(unittest.TestCase):

    def test_examples(self):
        told(self, """
            >>> [pairs_of(U, (0, 1), U, (1, 0)), are_alike(U, (0, 1), U, (1, 0)), parting_road(U, (0, 0), U, (1, 1)), alike_lot(U, (0, 0), U, (1, 1))]
            [(((0, 1), (1, 0)), ((1, 1), (1, 1))), True, (0, 0), None]
            >>> [alike_lot(U, (1,), U, ()), is_closed_lot(U, U, (((1,), ()),)), is_closed_lot(U, U, (((0,), ()),)), is_closed_lot(U, U, ())]
            [(((1,), ()),), True, False, True]
            """, dict(U=U, pairs_of=pairs_of, are_alike=are_alike, parting_road=parting_road, alike_lot=alike_lot,
                      is_closed_lot=is_closed_lot))

    def test_beside_all_roads(self):
        rng = random.Random(47)
        found = [0, 0]
        for _ in range(300):
            case = kind, train, beside, other = drawn_pair(rng, 7)
            pairs = slow_pairs(*case)
            self.assertEqual(pairs_of(*case), tuple(pairs))
            # [3]: some road of at most as many latches as there are pairs is left unlike.
            roads = rows_up_to(len(kind[0]), len(pairs))
            parting = next((road for road in roads if not left_alike(*case, [road])), None)
            self.assertEqual(parting_road(*case), parting)
            self.assertIs(are_alike(*case), parting is None)
            self.assertEqual(alike_lot(*case), None if parting else tuple(sorted(pairs)))
            found[parting is None] += 1
        self.assertGreater(min(found), 30)

    def test_lots_are_closed(self):
        rng = random.Random(48)
        for _ in range(150):
            case = kind, train, beside, other = drawn_pair(rng, 7)
            lot = alike_lot(*case)
            if lot is None:
                self.assertIs(is_closed_lot(kind, beside, tuple(sorted(slow_pairs(*case)))), False)
                continue
            self.assertIn((train, other), lot)
            self.assertIs(is_closed_lot(kind, beside, lot), True)
            for at in range(len(lot)):
                less = lot[:at] + lot[at + 1:]
                self.assertIs(is_closed_lot(kind, beside, less), slow_closed(kind, beside, less))

    def test_kinds_spun_about(self):
        rng = random.Random(49)
        for _ in range(100):
            kind = spun_kind(rng, (((1, 1), (0, 0)), ((0, 1), (1, 1))))
            beside = spun_kind(rng, kind)
            train, other = drawn_train(rng, kind, 4), drawn_train(rng, beside, 4)
            same = len(slow_pairs(kind, train, beside, other)) <= 1000
            self.assertTrue(same)
            roads = all_rows(2, 6)
            if are_alike(kind, train, beside, other):
                self.assertTrue(left_alike(kind, train, beside, other, roads))
            else:
                road = parting_road(kind, train, beside, other)
                self.assertFalse(left_alike(kind, train, beside, other, [road]))

    def test_drawn_lots(self):
        rng = random.Random(50)
        found = set()
        for _ in range(300):
            kind, train, beside, other = drawn_pair(rng, 6)
            trains = [drawn_train(rng, kind, 1) for _ in range(3)]
            others = [drawn_train(rng, beside, 1) for _ in range(3)]
            value = tuple(sorted({(rng.choice(trains), rng.choice(others)) for _ in range(rng.randint(0, 3))}))
            closed = slow_closed(kind, beside, value)
            found.add((closed, len(value) > 1))
            self.assertIs(is_closed_lot(kind, beside, value), closed)
        self.assertEqual(len(found), 4)

    def test_spoilt_lots(self):
        lot = alike_lot(U, (0, 1), U, (1, 0))
        self.assertEqual(lot, (((0, 1), (1, 0)), ((1, 1), (1, 1))))
        one, two = lot
        self.assertIs(is_closed_lot(U, U, lot), True)
        self.assertIs(is_closed_lot(U, U, (two,)), True)
        for value in ((one,), (two, one), (one, one, two), (one, two, two), list(lot), (list(one), two),
                      (((0, 1), [1, 0]), two), ((one[0],), two), (one + ((),), two), (one, ((1, 1), (1, 2))),
                      (one, ((1, 1), (1, True))), (((False, 1), (1, 0)), two), (((0, 1), (1, 0)), ((1, 1), (0, 1))),
                      one, (one, two, ((1,) * 61, ())), (one, two, ((1,), (1,) * 61)), (one, None), (one, two, ()),
                      (one, two, ((), ())[:1]), (((0,), (1,)),), (((), (0,)), one, two)):
            self.assertIs(is_closed_lot(U, U, value), False, value)
        self.assertIs(is_closed_lot(U, U, (((), ()), one, two)), True)

    def test_any_value_for_a_lot(self):
        for value in SPOILT + [U, 0, InvalidText(2), (U,), ((U, U),)]:
            self.assertIs(is_closed_lot(U, U, value), False, value)

    def test_lots_of_two_kinds(self):
        kind = (((0, 0), (1, 0)),)
        self.assertIs(is_closed_lot(STILL, kind, (((1,), (0,)),)), True)
        self.assertIs(is_closed_lot(kind, STILL, (((1,), (0,)),)), False)
        self.assertIs(is_closed_lot(kind, STILL, (((0,), (1,)),)), True)

    def test_lots_of_1000_pairs(self):
        trains = [train for many in range(11) for train in all_rows(2, many)]
        pairs = sorted((train, ()) for train in trains)[:1001]
        self.assertIs(is_closed_lot(STILL, STILL, tuple(pairs[:1000])), True)
        self.assertIs(is_closed_lot(STILL, STILL, tuple(pairs[1:])), True)
        self.assertIs(is_closed_lot(STILL, STILL, tuple(pairs)), False)
        long = (((0,) * 60, (1,) * 60),)
        self.assertIs(is_closed_lot(STILL, STILL, long), True)

    def test_limit_just_kept(self):
        case = (KIND_1000, TRAIN_1000, KIND_1000, ())
        self.assertEqual(len(pairs_of(*case)), 1000)
        self.assertIs(are_alike(*case), False)
        self.assertIs(are_alike(KIND_1000, TRAIN_1000, KIND_1000, TRAIN_1000), True)
        lot = alike_lot(KIND_1000, TRAIN_1000, KIND_1000, TRAIN_1000)
        self.assertEqual(len(lot), 1000)
        self.assertIs(is_closed_lot(KIND_1000, KIND_1000, lot), True)
        self.assertIs(is_closed_lot(KIND_1000, KIND_1000, lot[1:]), False)

    def test_limit_just_passed(self):
        for case in ((KIND_1001, TRAIN_1001, KIND_1001, ()), (KIND_1001, (), KIND_1001, TRAIN_1001),
                     (KIND_1001, TRAIN_1001, KIND_1001, TRAIN_1001)):
            for function in FUNCTIONS:
                self.assertEqual(raised(lambda: function(*case)), "TooMany(1000)")
                for wrong_one in ((4,), None, [0], (0,) * 61):
                    self.assertEqual(raised(lambda: function(*case[:3], wrong_one)), "InvalidTrain")

    def test_nothing_goes(self):
        for kind, beside in ((U, U), (U, STILL), ((((0, 0),),), (((0, 0),),) * 6)):
            self.assertEqual(pairs_of(kind, (), beside, ()), (((), ()),))
            self.assertIs(are_alike(kind, (), beside, ()), True)
            self.assertIsNone(parting_road(kind, (), beside, ()))
            self.assertEqual(alike_lot(kind, (), beside, ()), (((), ()),))

    def test_six_of_each_and_sixty_walkers(self):
        kind = tuple(tuple(((setting + 1) % 6, sort) for setting in range(6)) for sort in range(6))
        self.assertIs(are_alike(kind, (0,) * 60, kind, ()), True)
        self.assertIs(are_alike(kind, (0, 5) * 30, kind, (3,) * 6), True)
        self.assertEqual(parting_road(kind, (0,) * 59, kind, ()), (0,))

    def test_wrong_arguments(self):
        for function in FUNCTIONS:
            check_wrong_pair(self, function, (U, (0, 1), U, (1, 0)))
        for beside in ("beside", "unlike"):
            check_wrong(self, is_closed_lot, (U, U, ()), [wrong("kind"), wrong(beside)])
            for value in wrong(beside)[1]:
                self.assertEqual(raised(lambda: is_closed_lot(U, value, None)), wrong(beside)[0])

    def test_other_is_a_train_of_the_kind_beside(self):
        three = U + (((0, 2), (1, 2)),)
        self.assertIs(are_alike(U, (1,), three, (2,)), True)
        self.assertEqual(raised(lambda: are_alike(three, (2,), U, (2,))), "InvalidTrain")
        self.assertEqual(raised(lambda: are_alike(U, (2,), three, (2,))), "InvalidTrain")
