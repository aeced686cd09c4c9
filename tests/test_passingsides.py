"""The sides of a passing [26], [67]."""

import itertools
import random
import unittest

from latchroads.kinds import is_kind
from latchroads.passingsides import kind_back, sides_clash, sides_tell
from tests.helper import (U, all_rows, check_wrong, drawn_kind, drawn_road, drawn_train, one_to_one_kind, slow_passed,
                          told, turned_by_hand, wrong)

SIDES = [("out", "behind"), ("in", "behind"), ("ahead", "out")]


def sides_of(kind, place):
    """What stands at the four sides when a walker of a sort goes through a latch in a setting."""
    left, out = slow_passed(kind, place[:1], place[1:])
    return {"in": place[0], "ahead": place[1], "out": out[0], "behind": left[0]}


def slow_clash(kind, sides):
    """The first pair of two unlike pairs (sort, setting) with the same two sides, or None."""
    places = list(itertools.product(range(len(kind)), range(len(kind[0]))))
    clashes = [(one, two) for one in places for two in places if one < two
               and all(sides_of(kind, one)[side] == sides_of(kind, two)[side] for side in sides)]
    return min(clashes, default=None)


def telling_kind(rng, settings, sorts, sides):
    """A drawn kind of which two sides have no clash."""
    if sides == ("in", "behind"):
        return one_to_one_kind(rng, settings, sorts)
    if sides == ("ahead", "out"):
        return turned_by_hand(one_to_one_kind(rng, sorts, settings))
    pairs = list(itertools.product(range(settings), range(sorts)))
    rng.shuffle(pairs)
    return tuple(tuple(pairs[sort * settings:(sort + 1) * settings]) for sort in range(sorts))


class PassingsidesTest(unittest.TestCase):

    def test_example(self):
        told(self, """
            >>> [sides_tell(U, ("in", "behind")), sides_clash(U, ("out", "behind")), sides_clash(U, ("ahead", "out")), kind_back(U, ("in", "behind"))]
            [True, ((0, 0), (1, 1)), ((0, 0), (1, 0)), (((1, 0), (0, 1)), ((0, 1), (1, 1)))]
            """, dict(U=U, sides_tell=sides_tell, sides_clash=sides_clash, kind_back=kind_back))

    def test_clashes_beside_slow_reading(self):
        rng = random.Random(67)
        found = {(sides, tell): 0 for sides in SIDES for tell in (True, False)}
        for turn in range(450):
            settings, sorts = rng.randint(1, 6), rng.randint(1, 6)
            draw = SIDES[turn % 3]
            kind = telling_kind(rng, settings, sorts, draw) if rng.random() < 0.5 else drawn_kind(rng, settings, sorts)
            if rng.random() < 0.3:
                # One pair of a kind without a clash is another one.
                rows = [list(row) for row in kind]
                rows[rng.randrange(sorts)][rng.randrange(settings)] = (rng.randrange(settings), rng.randrange(sorts))
                kind = tuple(map(tuple, rows))
            for sides in SIDES:
                clash = slow_clash(kind, sides)
                self.assertEqual(sides_clash(kind, sides), clash)
                self.assertIs(sides_tell(kind, sides), clash is None)
                self.assertIs(kind_back(kind, sides) is None, clash is not None)
                found[sides, clash is None] += 1
        self.assertGreater(min(found.values()), 40, found)

    def test_all_small_kinds(self):
        pairs = list(itertools.product(range(2), range(2)))
        for entries in itertools.product(pairs, repeat=4):
            kind = (entries[:2], entries[2:])
            for sides in SIDES:
                self.assertEqual(sides_clash(kind, sides), slow_clash(kind, sides))

    def test_kinds_that_go_back_beside_walks(self):
        rng = random.Random(68)
        for turn in range(300):
            sides = SIDES[turn % 3]
            kind = telling_kind(rng, rng.randint(1, 6), rng.randint(1, 6), sides)
            back = kind_back(kind, sides)
            self.assertTrue(is_kind(back))
            self.assertEqual((len(back), len(back[0])), (len(kind), len(kind[0])))
            train, road = drawn_train(rng, kind, 7), drawn_road(rng, kind, 7)
            left, out = slow_passed(kind, train, road)
            # In turn the last walker and the last latch, the last walker alone, the last latch alone go back first.
            if sides == ("out", "behind"):
                there, wanted = slow_passed(back, out[::-1], left[::-1]), (road[::-1], train[::-1])
            elif sides == ("in", "behind"):
                there, wanted = slow_passed(back, train[::-1], left), (road, out[::-1])
            else:
                there, wanted = slow_passed(back, out, road[::-1]), (left[::-1], train)
            self.assertEqual(there, wanted)

    def test_each_entry_that_goes_back(self):
        rng = random.Random(69)
        for turn in range(90):
            sides = SIDES[turn % 3]
            kind = telling_kind(rng, rng.randint(1, 6), rng.randint(1, 6), sides)
            back = kind_back(kind, sides)
            for sort, setting in itertools.product(range(len(kind)), range(len(kind[0]))):
                left, out = kind[sort][setting]
                entries = {SIDES[0]: (out, left, setting, sort), SIDES[1]: (sort, left, setting, out),
                           SIDES[2]: (out, setting, left, sort)}
                walker, latch, new_left, behind = entries[sides]
                self.assertEqual(back[walker][latch], (new_left, behind))

    def test_a_clash_needs_no_long_roads(self):
        # [3]: for trains and roads of all lengths, two sides tell the others if and only if they have no clash.
        rng = random.Random(70)
        for turn in range(60):
            sides = SIDES[turn % 3]
            kind = drawn_kind(rng, 2, 2) if rng.random() < 0.5 else telling_kind(rng, 2, 2, sides)
            firsts = {}
            told_all = True
            for walkers, latches in itertools.product(range(4), range(4)):
                for train, road in itertools.product(all_rows(2, walkers), all_rows(2, latches)):
                    left, out = slow_passed(kind, train, road)
                    four = {"in": train, "ahead": road, "out": out, "behind": left}
                    key = (walkers, latches) + tuple(four[side] for side in sides)
                    told_all = told_all and firsts.setdefault(key, (train, road)) == (train, road)
            self.assertIs(sides_tell(kind, sides), told_all)

    def test_one_setting_one_sort_six_of_each(self):
        for sides in SIDES:
            self.assertEqual([sides_tell((((0, 0),),), sides), sides_clash((((0, 0),),), sides),
                              kind_back((((0, 0),),), sides)], [True, None, (((0, 0),),)])
        row = (((1, 0), (2, 0), (0, 0)),)
        self.assertEqual([kind_back(row, sides) for sides in SIDES],
                         [(((2, 0), (0, 0), (1, 0)),), (((2, 0), (0, 0), (1, 0)),), row])
        column = turned_by_hand(row)
        self.assertEqual([kind_back(column, sides) for sides in SIDES],
                         [(((0, 2),), ((0, 0),), ((0, 1),)), column, (((0, 2),), ((0, 0),), ((0, 1),))])
        six = tuple(tuple(((setting + sort) % 6, (sort + 5 * setting) % 6) for setting in range(6)) for sort in range(6))
        for sides in SIDES:
            self.assertEqual(sides_clash(six, sides), slow_clash(six, sides))
        zero = (((0, 0),) * 6,) * 6
        self.assertEqual([sides_clash(zero, sides) for sides in SIDES],
                         [((0, 0), (0, 1)), ((0, 0), (0, 1)), ((0, 0), (1, 0))])

    def test_wrong_arguments(self):
        for function in (sides_tell, sides_clash, kind_back):
            check_wrong(self, function, (U, ("in", "behind")), [wrong("kind"), wrong("sides")])
