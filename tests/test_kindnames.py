"""Kinds with other names [10], [45]."""

import itertools
import random
import unittest

from latchroads.kindnames import named_kind, names_between, own_names
from tests.helper import U, check_wrong, drawn_kind, raised, told, wrong


def is_named(kind, settings, sorts, other):
    """Whether each pair of the one kind stands, with its new names, where it must in the other one."""
    return all(other[sorts[sort]][settings[setting]] == (settings[left], sorts[behind])
               for sort, row in enumerate(kind) for setting, (left, behind) in enumerate(row))


def slow_names(kind, other):
    if (len(kind), len(kind[0])) != (len(other), len(other[0])):
        return []
    return [(settings, sorts) for settings in itertools.permutations(range(len(kind[0])))
            for sorts in itertools.permutations(range(len(kind))) if is_named(kind, settings, sorts, other)]


def drawn_order(rng, many):
    return tuple(rng.sample(range(many), many))


class KindNamesTest(unittest.TestCase):

    def test_examples(self):
        told(self, """
            >>> [named_kind(U, (0, 1), (1, 0)), names_between(U, (((0, 0), (1, 0)), ((1, 1), (0, 0)))), names_between(U, U), own_names((((1, 0), (0, 0)),))]
            [(((0, 0), (1, 0)), ((1, 0), (0, 1))), ((1, 0), (1, 0)), ((0, 1), (0, 1)), 2]
            >>> named_kind((((1, 0), (1, 0), (2, 0)),), (1, 2, 0), (0,))
            (((0, 0), (2, 0), (2, 0)),)
            """, dict(U=U, named_kind=named_kind, names_between=names_between, own_names=own_names))

    def test_named_kinds(self):
        rng = random.Random(45)
        for _ in range(200):
            kind = drawn_kind(rng)
            settings, sorts = drawn_order(rng, len(kind[0])), drawn_order(rng, len(kind))
            named = named_kind(kind, settings, sorts)
            self.assertEqual((len(named), len(named[0])), (len(kind), len(kind[0])))
            self.assertTrue(is_named(kind, settings, sorts, named))

    def test_six_of_each(self):
        kind = tuple(tuple((setting, sort) for setting in range(6)) for sort in range(6))
        self.assertEqual(named_kind(kind, (5, 4, 3, 2, 1, 0), (1, 2, 3, 4, 5, 0)), kind)
        kind = tuple(tuple((0, 5) for _ in range(6)) for _ in range(6))
        self.assertEqual(named_kind(kind, (5, 4, 3, 2, 1, 0), (1, 2, 3, 4, 0, 5)), (((5, 5),) * 6,) * 6)

    def test_names_beside_all_orders(self):
        rng = random.Random(46)
        for at in range(80):
            kind = drawn_kind(rng, rng.randint(1, 3), rng.randint(1, 4))
            other = drawn_kind(rng, len(kind[0]), len(kind)) if at % 3 == 0 else named_kind(
                kind, drawn_order(rng, len(kind[0])), drawn_order(rng, len(kind)))
            names = slow_names(kind, other)
            self.assertEqual(names_between(kind, other), names[0] if names else None)
            self.assertEqual(own_names(kind), len(slow_names(kind, kind)))

    def test_many_names(self):
        still = tuple(tuple((setting, sort) for setting in range(4)) for sort in range(4))
        self.assertEqual(own_names(still), 576)
        self.assertEqual(names_between(still, still), ((0, 1, 2, 3), (0, 1, 2, 3)))
        self.assertEqual(own_names((((0, 0),),)), 1)

    def test_unlike_sizes(self):
        self.assertIsNone(names_between(U, U + (((0, 0), (0, 0)),)))
        self.assertIsNone(names_between((((0, 0),),), (((0, 0), (1, 0)),)))
        self.assertIsNone(names_between(U, (((0, 0), (1, 0)),)))

    def test_limit(self):
        four, five, six = (((0, 0),) * 4,), (((0, 0),) * 5,), (((0, 0),) * 6,)
        many = (((0, 0),),) * 5
        self.assertEqual(own_names(four), 6)
        self.assertEqual(names_between(four, four), ((0, 1, 2, 3), (0,)))
        for kind in (five, six, many, (((0, 0),),) * 6):
            self.assertEqual(raised(lambda: own_names(kind)), "TooMany(4)")
            self.assertEqual(raised(lambda: names_between(kind, kind)), "TooMany(4)")
            self.assertEqual(raised(lambda: names_between(kind, U)), "TooMany(4)")
            self.assertEqual(raised(lambda: names_between(U, kind)), "TooMany(4)")
            self.assertEqual(raised(lambda: names_between(kind, U[:1])), "InvalidKind")
        self.assertEqual(named_kind(five, (4, 3, 2, 1, 0), (0,)), (((4, 0),) * 5,))

    def test_orders_of_sizes(self):
        kind = (((0, 0), (1, 0), (2, 0)),)
        for settings in ((0, 1), (0, 1, 2, 3), (0, 1, 1), (0, 1, 3), (-1, 0, 1), [0, 1, 2], (0, True, 2), ()):
            self.assertEqual(raised(lambda: named_kind(kind, settings, (0,))), "InvalidOrder")
        for sorts in ((), (1,), (0, 1), [0], (False,), 0):
            self.assertEqual(raised(lambda: named_kind(kind, (0, 1, 2), sorts)), "InvalidOrder")

    def test_wrong_arguments(self):
        check_wrong(self, named_kind, (U, (0, 1), (1, 0)), [wrong("kind"), wrong("order"), wrong("order")])
        check_wrong(self, names_between, (U, U), [wrong("kind"), wrong("beside")])
        check_wrong(self, own_names, (U,), [wrong("kind")])
