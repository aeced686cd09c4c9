"""Trains in the place of stretches [15], [51], and what [3] says of them."""

import random
import unittest

from latchroads.alikes import are_alike
from latchroads.standins import stretches_for, with_stretch
from tests.helper import (KIND_1000, KIND_1001, TRAIN_1000, TRAIN_1001, U, all_rows, check_new_list, check_wrong,
                          drawn_kind, drawn_train, left_alike, raised, slow_pairs, spun_kind, told, wrong)


def stretches(train):
    """All stretches of a train, ascending."""
    return [(begin, end) for begin in range(len(train) + 1) for end in range(begin, len(train) + 1)]


class StandinsTest(unittest.TestCase):

    def test_example(self):
        told(self, """
            >>> [with_stretch(U, (0, 1, 0), 1, 2, ()), stretches_for(U, (0, 1), (1, 0)), stretches_for(U, (0, 1, 0), (1,))]
            [(0, 0), [(0, 1), (0, 2)], [(0, 0), (1, 1), (1, 2), (2, 2), (3, 3)]]
            """, dict(U=U, with_stretch=with_stretch, stretches_for=stretches_for))

    def test_walkers_are_left_out_and_go_there(self):
        rng = random.Random(51)
        for _ in range(100):
            kind = drawn_kind(rng)
            train, other = drawn_train(rng, kind, 8), drawn_train(rng, kind, 4)
            for begin, end in stretches(train):
                whole = list(train)
                whole[begin:end] = other
                self.assertEqual(with_stretch(kind, train, begin, end, other), tuple(whole))

    def test_begin_end_and_the_whole(self):
        train = (0, 1, 1, 0)
        self.assertEqual(with_stretch(U, train, 0, 0, (1,)), (1,) + train)
        self.assertEqual(with_stretch(U, train, 4, 4, (1,)), train + (1,))
        self.assertEqual(with_stretch(U, train, 0, 4, (1,)), (1,))
        self.assertEqual(with_stretch(U, train, 0, 4, ()), ())
        self.assertEqual(with_stretch(U, train, 2, 2, ()), train)
        self.assertEqual(with_stretch(U, train, 3, 4, (1, 1)), (0, 1, 1, 1, 1))
        self.assertEqual(with_stretch(U, (), 0, 0, ()), ())
        self.assertEqual(with_stretch(U, (), 0, 0, train), train)

    def test_beside_all_roads(self):
        rng = random.Random(52)
        found = [0, 0]
        for _ in range(400):
            kind = spun_kind(rng, drawn_kind(rng, 2, rng.randint(1, 2)))
            train, other = drawn_train(rng, kind, 3), drawn_train(rng, kind, 2)
            fit = []
            for begin, end in stretches(train):
                case = (kind, train, kind, train[:begin] + other + train[end:])
                pairs = len(slow_pairs(*case))
                if pairs > 6:
                    fit = None
                    break
                if left_alike(*case, all_rows(2, pairs)):
                    fit.append((begin, end))
            if fit is not None:
                self.assertEqual(stretches_for(kind, train, other), fit)
                for stretch in stretches(train):
                    found[stretch in fit] += 1
        self.assertGreater(min(found), 100)

    def test_beside_pairs(self):
        rng = random.Random(53)
        for _ in range(60):
            kind = spun_kind(rng, drawn_kind(rng, rng.randint(1, 3), rng.randint(1, 3)))
            train, other = drawn_train(rng, kind, 5), drawn_train(rng, kind, 3)
            if max(len(slow_pairs(kind, train, kind, train[:begin] + other + train[end:]))
                   for begin, end in stretches(train)) > 200:
                continue
            fit = [(begin, end) for begin, end in stretches(train)
                   if are_alike(kind, train, kind, train[:begin] + other + train[end:])]
            self.assertEqual(stretches_for(kind, train, other), fit)

    def test_alike_trains_stand_anywhere(self):
        # [3]: (0, 1) and (1, 0) are alike, so are (1, 1) and ().
        for ahead in all_rows(2, 2):
            for behind in all_rows(2, 2):
                self.assertIn((2, 4), stretches_for(U, ahead + (0, 1) + behind, (1, 0)))
                self.assertIn((2, 4), stretches_for(U, ahead + (1, 1) + behind, ()))
                self.assertIn((2, 2), stretches_for(U, ahead + behind, (1, 1)))
                self.assertNotIn((2, 2), stretches_for(U, ahead + behind, (0,)))

    def test_no_walkers(self):
        self.assertEqual(stretches_for(U, (), ()), [(0, 0)])
        self.assertEqual(stretches_for(U, (), (1,)), [(0, 0)])
        self.assertEqual(stretches_for(U, (), (0,)), [])
        one = (((0, 0),),)
        self.assertEqual(stretches_for(one, (0, 0), (0,)), stretches((0, 0)))
        self.assertEqual(stretches_for(one, (0, 0), ()), stretches((0, 0)))

    def test_sixty_walkers(self):
        self.assertEqual(with_stretch(U, (1,) * 60, 0, 3, (0, 0, 0)), (0,) * 3 + (1,) * 57)
        self.assertEqual(with_stretch(U, (1,) * 59, 59, 59, (0,)), (1,) * 59 + (0,))
        self.assertEqual(with_stretch(U, (1,) * 60, 0, 60, (0,) * 60), (0,) * 60)
        ones = stretches((1,) * 60)
        self.assertEqual(stretches_for(U, (1,) * 60, ()), ones)
        self.assertEqual(stretches_for(U, (1,) * 60, (1,)), [(begin, end) for begin, end in ones if begin < end])
        self.assertEqual(stretches_for(U, (1,) * 59, (1,)), stretches((1,) * 59))
        self.assertEqual(stretches_for(U, (1,) * 60, (1,) * 60), [(0, 60)])
        self.assertEqual(stretches_for(U, (1,) * 60, (0,) + (1,) * 59), [])
        self.assertEqual(stretches_for(U, (0,) * 60, (0,)), [(at, at + 1) for at in range(60)])

    def test_sixty_walkers_of_many_kinds(self):
        six = tuple(tuple(((setting + sort) % 6, (sort + 1) % 6) for setting in range(6)) for sort in range(6))
        train = tuple(walker % 6 for walker in range(60))
        fit = stretches_for(six, train, ())
        # Turns add up: what is left out must turn by as much as nothing, as whatever sorts it goes on.
        self.assertEqual(fit, [(begin, end) for begin, end in stretches(train) if (end - begin) % 6 == 0
                               and sum(train[begin:end]) % 6 == 0])
        self.assertEqual(stretches_for(six, train, (0,) * 60), [(0, 60)])

    def test_limit_of_walkers(self):
        for train, begin, end, other in (((1,) * 60, 0, 0, (1,)), ((1,) * 60, 60, 60, (1,)), ((), 0, 0, (1,) * 60),
                                         ((1,) * 60, 3, 5, (1, 0, 1)), ((1,) * 60, 0, 59, (0,) * 60)):
            if not train:
                self.assertEqual(with_stretch(U, train, begin, end, other), other)
                continue
            self.assertEqual(raised(lambda: with_stretch(U, train, begin, end, other)), "TooMany(60)")
            self.assertEqual(raised(lambda: with_stretch(U, train, begin, end, other[:-1] + (2,))), "InvalidTrain")
            self.assertEqual(raised(lambda: with_stretch(U, train, begin, 61, other)), "InvalidStretch")

    def test_limit_of_pairs(self):
        self.assertEqual(stretches_for(KIND_1000, (), TRAIN_1000), [])
        self.assertEqual(raised(lambda: stretches_for(KIND_1001, (), TRAIN_1001)), "TooMany(1000)")
        # What comes is left unlike by the first latch, and yet all pairs are counted.
        self.assertEqual(raised(lambda: stretches_for(KIND_1001, TRAIN_1001, ())), "TooMany(1000)")
        self.assertEqual(raised(lambda: stretches_for(KIND_1001, TRAIN_1001, (4,))), "InvalidTrain")

    def test_limit_is_that_of_each_pair(self):
        # Of each train alone few trains come, of the two beside one another, in a later stretch, too many.
        rng = random.Random(54)
        found = set()
        for _ in range(400):
            kind = drawn_kind(rng, rng.randint(2, 3), rng.randint(2, 4))
            train, other = drawn_train(rng, kind, 5), drawn_train(rng, kind, 2)
            wholes = [train[:begin] + other + train[end:] for begin, end in stretches(train)]
            pairs = [raised(lambda: are_alike(kind, train, kind, whole)) == "TooMany(1000)" for whole in wholes]
            found.add((pairs[0], any(pairs)))
            self.assertIs(raised(lambda: stretches_for(kind, train, other)) == "TooMany(1000)", any(pairs))
        self.assertEqual(found, {(False, False), (False, True), (True, True)})

    def test_wrong_arguments(self):
        stretch = [("InvalidStretch", [value for value in wrong("number")[1] if value != 1] + [3, 4]),
                   ("InvalidStretch", wrong("number", 1, 3)[1] + [0, 4])]
        check_wrong(self, with_stretch, (U, (0, 1, 0), 1, 2, ()),
                    [wrong("kind"), wrong("train"), *stretch, wrong("train")])
        for begin in range(-1, 5):
            for end in range(-1, 5):
                right = 0 <= begin <= end <= 3
                answer = raised(lambda: with_stretch(U, (0, 1, 0), begin, end, ()))
                self.assertIs(answer == "InvalidStretch", not right, (begin, end))
        check_wrong(self, stretches_for, (U, (0, 1), (1, 0)), [wrong("kind"), wrong("train"), wrong("train")])
        check_new_list(self, stretches_for, U, (0, 1), (1, 0))
