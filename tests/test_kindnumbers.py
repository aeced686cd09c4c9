"""The numbers of kinds [41]."""

import itertools
import random
import unittest

from latchroads.kindnumbers import count_kinds, kind_at, kind_number
from latchroads.kinds import is_kind
from tests.helper import BIG, U, check_wrong, drawn_kind, raised, told, wrong


def all_kinds(settings, sorts):
    """All kinds with so many settings and sorts, sorted."""
    pairs = list(itertools.product(range(settings), range(sorts)))
    rows = list(itertools.product(pairs, repeat=settings))
    return sorted(itertools.product(rows, repeat=sorts))


class KindNumbersTest(unittest.TestCase):

    def test_example(self):
        told(self, """
            >>> [count_kinds(2, 2), kind_number(U), kind_at(2, 2, 199) == U, count_kinds(1, 1), kind_at(1, 2, 3)]
            [256, 199, True, 1, (((0, 1),), ((0, 1),))]
            """, dict(U=U, count_kinds=count_kinds, kind_number=kind_number, kind_at=kind_at))

    def test_beside_all_kinds(self):
        for settings, sorts in ((1, 1), (1, 2), (2, 1), (2, 2), (1, 3), (3, 1), (1, 4), (4, 1), (1, 5), (2, 3), (3, 2)):
            kinds = all_kinds(settings, sorts)
            self.assertEqual(count_kinds(settings, sorts), len(kinds))
            for number in range(0, len(kinds), 1 if len(kinds) < 300 else 37):
                self.assertEqual(kind_number(kinds[number]), number)
                self.assertEqual(kind_at(settings, sorts, number), kinds[number])

    def test_all_sizes(self):
        for settings in range(1, 7):
            for sorts in range(1, 7):
                many = count_kinds(settings, sorts)
                self.assertEqual(many, (settings * sorts) ** (settings * sorts))
                first = (((0, 0),) * settings,) * sorts
                last = (((settings - 1, sorts - 1),) * settings,) * sorts
                self.assertEqual([kind_at(settings, sorts, 0), kind_number(first)], [first, 0])
                self.assertEqual([kind_at(settings, sorts, many - 1), kind_number(last)], [last, many - 1])
                for number in (-1, many, many + 1, BIG):
                    self.assertEqual(raised(lambda: kind_at(settings, sorts, number)), "InvalidNumber")

    def test_there_and_back(self):
        rng = random.Random(41)
        for _ in range(200):
            one = drawn_kind(rng)
            two = drawn_kind(rng, len(one[0]), len(one))
            self.assertEqual(kind_at(len(one[0]), len(one), kind_number(one)), one)
            self.assertEqual(kind_number(one) < kind_number(two), one < two)

    def test_next_ones(self):
        rng = random.Random(42)
        for _ in range(100):
            settings, sorts = rng.randint(1, 6), rng.randint(1, 6)
            number = rng.randrange(count_kinds(settings, sorts))
            kind = kind_at(settings, sorts, number)
            self.assertTrue(is_kind(kind))
            self.assertEqual((len(kind[0]), len(kind)), (settings, sorts))
            self.assertEqual(kind_number(kind), number)

    def test_wrong_arguments(self):
        sizes = [wrong("number", 1, 6), wrong("number", 1, 6)]
        check_wrong(self, count_kinds, (2, 3), sizes)
        check_wrong(self, kind_number, (U,), [wrong("kind")])
        check_wrong(self, kind_at, (2, 2, 255), sizes + [wrong("number", 0, 255)])
