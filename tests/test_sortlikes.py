"""Sorts that are alike [9], [43], and what [3] says of them."""

import random
import unittest

from latchroads.sortlikes import alike_from, all_classes, sort_classes, sort_road
from tests.helper import (BIG, U, all_rows, check_new_list, check_wrong, drawn_kind, left_alike, rows_up_to, slow_left,
                          spun_kind, told, wrong)

C = (((0, 1), (1, 0)), ((0, 2), (1, 2)), ((1, 2), (0, 2)))
# Of this kind's sorts the first two are told apart by roads of five latches only.
CHAIN = tuple(((0, min(sort + 1, 5)), (1 if sort < 5 else 0, min(sort + 1, 5))) for sort in range(6))


def slow_classes(kind, most):
    """The classes by what walkers leave all roads like, of at most so many latches."""
    roads = [road for many in range(most + 1) for road in all_rows(len(kind[0]), many)]
    classes = {}
    for sort in range(len(kind)):
        classes.setdefault(tuple(slow_left(kind, (sort,), road) for road in roads), []).append(sort)
    return sorted(tuple(found) for found in classes.values())


def drawn_kinds(seed, many):
    rng = random.Random(seed)
    for at in range(many):
        kind = drawn_kind(rng, rng.randint(1, 2), rng.randint(1, 6) if at % 3 else rng.randint(1, 2))
        yield spun_kind(rng, kind) if at % 2 else kind


class SortLikesTest(unittest.TestCase):

    def test_example(self):
        told(self, """
            >>> C = (((0, 1), (1, 0)), ((0, 2), (1, 2)), ((1, 2), (0, 2)))
            >>> [sort_classes(C, 0), sort_classes(C, 1), sort_classes(C, 2), alike_from(C), sort_road(C, 0, 1), sort_road(C, 0, 0)]
            [[(0, 1, 2)], [(0, 1), (2,)], [(0,), (1,), (2,)], 2, (0, 0), None]
            """, dict(sort_classes=sort_classes, alike_from=alike_from, sort_road=sort_road))

    def test_beside_all_roads(self):
        for kind in drawn_kinds(43, 80):
            sorts = len(kind)
            classes = [slow_classes(kind, most) for most in range(sorts + 1)]
            for most in range(sorts + 1):
                self.assertEqual(sort_classes(kind, most), classes[most])
            self.assertEqual(sort_classes(kind, BIG), classes[sorts])
            self.assertEqual(all_classes(kind), classes[sorts])
            self.assertEqual(alike_from(kind), classes.index(classes[sorts]))
            # [3]: roads of fewer latches than there are sorts tell all.
            self.assertEqual(classes[sorts - 1], classes[sorts])

    def test_roads_beside_all_roads(self):
        for kind in drawn_kinds(44, 60):
            roads = rows_up_to(len(kind[0]), len(kind))
            for one in range(len(kind)):
                for two in range(len(kind)):
                    parting = [road for road in roads if not left_alike(kind, (one,), kind, (two,), [road])]
                    self.assertEqual(sort_road(kind, one, two), parting[0] if parting else None)

    def test_three_settings(self):
        rng = random.Random(45)
        for _ in range(20):
            kind = drawn_kind(rng, 3, rng.randint(2, 4))
            self.assertEqual(all_classes(kind), slow_classes(kind, 4))

    def test_chain(self):
        self.assertEqual([len(sort_classes(CHAIN, most)) for most in range(8)], [1, 2, 3, 4, 5, 6, 6, 6])
        self.assertEqual(alike_from(CHAIN), 5)
        self.assertEqual(sort_road(CHAIN, 0, 1), (0, 0, 0, 0, 1))
        self.assertEqual(sort_road(CHAIN, 5, 4), (1,))

    def test_one_of_each(self):
        kind = (((0, 0),),)
        self.assertEqual([sort_classes(kind, 0), all_classes(kind), alike_from(kind), sort_road(kind, 0, 0)],
                         [[(0,)], [(0,)], 0, None])
        self.assertEqual(all_classes((((0, 5),), ((0, 0),)) + (((0, 3),),) * 4), [(0, 1, 2, 3, 4, 5)])

    def test_six_of_each(self):
        kind = tuple(tuple(((setting + sort) % 6, 0) for setting in range(6)) for sort in range(6))
        self.assertEqual(all_classes(kind), [(sort,) for sort in range(6)])
        self.assertEqual([alike_from(kind), sort_road(kind, 3, 5)], [1, (0,)])

    def test_new_lists(self):
        check_new_list(self, sort_classes, C, 1)
        check_new_list(self, all_classes, C)

    def test_wrong_arguments(self):
        check_wrong(self, sort_classes, (U, 2), [wrong("kind"), wrong("number", 0, None)])
        check_wrong(self, all_classes, (U,), [wrong("kind")])
        check_wrong(self, alike_from, (U,), [wrong("kind")])
        check_wrong(self, sort_road, (U, 0, 1), [wrong("kind"), wrong("sort"), wrong("sort")])
