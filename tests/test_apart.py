"""Trains that tell endless roads apart [29], [70], and what [3] says of them."""

import random
import unittest

from latchroads.apart import height_paper, is_height_paper, left_as_one, look_ahead
from latchroads.kindtexts import read_kind
from tests.helper import (BIG, D, FEW_1000, FEW_1001, SPOILT, STILL_1000, STILL_1001, U, all_rows, check_wrong,
                          drawn_kind, drawn_train, mixed_kind, one_to_one_kind, raised, slow_coming, slow_left,
                          slow_left_long, slow_passed, told, written_out, wrong)

# Just so many parted pairs come of these, in rings among others.
PARTED_1000 = read_kind("1c2b0b 2c0d1a 1a1b0c 0c2d1c"), (0, 1, 3)
PARTED_1001 = read_kind("0d0c1a 1c1b2b 0c2b1c 2a1a0a"), (0, 3, 2, 1)
# Each walker of this kind leaves each latch as it found the one ahead.
DELAY = tuple(tuple((sort, setting) for setting in range(6)) for sort in range(6))
LOSE = (((0, 0), (0, 0)),)


def like_behind(kind, first, second, both):
    """The pairs of trains behind a latch in two settings, of some told, that two trains leave alike."""
    pairs = []
    for one, two in both:
        left, out = slow_passed(kind, first, (one,))
        other_left, other_out = slow_passed(kind, second, (two,))
        if left == other_left:
            pairs.append((out, other_out))
    return pairs


def every_two(kind):
    return [(one, two) for one in range(len(kind[0])) for two in range(len(kind[0]))]


def slow_parted(kind, train):
    """The parted pairs of a train: {pair: the pairs of which it is one behind a latch}, and those that begin."""
    unlike = [(one, two) for one, two in every_two(kind) if one < two]
    begins = {pair for first in slow_coming(kind, train) for pair in like_behind(kind, first, first, unlike)}
    steps = {}
    todo = list(begins)
    while todo:
        pair = todo.pop()
        if pair not in steps:
            steps[pair] = like_behind(kind, pair[0], pair[1], every_two(kind))
            todo += steps[pair]
    return steps, begins


def slow_walks(steps):
    """How far one goes on from each pair, or None if there is no end; pairs without a way on are taken away in turn."""
    walks = {}
    while True:
        ends = [pair for pair in steps if pair not in walks and all(to in walks for to in steps[pair])]
        if not ends:
            return walks if len(walks) == len(steps) else None
        for pair in ends:
            walks[pair] = 1 + max([walks[to] for to in steps[pair]], default=-1)


def slow_ahead(kind, train, latches):
    """The least number of latches behind which unlike ones are surely left unlike, tried on all roads, or None."""
    for ahead in range(latches):
        fit = True
        for begin in range(latches - ahead):
            lefts = {}
            for road in all_rows(len(kind[0]), begin + ahead + 1):
                lefts.setdefault(slow_left(kind, train, road), set()).add(road[:begin + 1])
            fit = fit and all(len(firsts) == 1 for firsts in lefts.values())
        if fit:
            return ahead
    return None


def slow_paper(kind, train, value):
    """Whether a tuple of triples is a height paper by the words of [29]."""
    heights = {(first, second): height for first, second, height in value}
    if list(value) != sorted(set(value)) or len(heights) < len(value) or len(value) > 1000:
        return False
    if not all(len(first) == len(second) and 0 <= height <= 1000 for first, second, height in value):
        return False
    if not all(pair in heights for pair in slow_parted(kind, train)[0]):
        return False
    return all(to in heights and heights[to] < height for first, second, height in value
               for to in like_behind(kind, first, second, every_two(kind)))


def delaying_kind(rng, settings):
    """A drawn kind most of whose sorts leave a latch as they are named, and tell by their next names how it was."""
    rows = []
    for sort in range(settings):
        if rng.random() < 0.8:
            order = rng.sample(range(settings), settings)
            rows.append(tuple((sort, behind) for behind in order))
        else:
            rows.append(drawn_kind(rng, settings, settings)[sort])
    for _ in range(rng.randint(0, 2)):
        left = rng.sample(range(settings), settings)
        rows.append(tuple((setting, rng.randrange(settings)) for setting in left))
    return tuple(rows)


def draw(rng):
    kind = mixed_kind(rng, rng.randint(1, 4), rng.randint(1, 5), rng.choice((0.1, 0.3, 1)))
    if rng.random() < 0.7:
        kind = delaying_kind(rng, rng.randint(2, 3))
    return kind, drawn_train(rng, kind, 3)


class ApartTest(unittest.TestCase):

    def check_as_one(self, kind, train, found):
        """Two unlike endless roads, with not too many settings, are left alike."""
        self.assertEqual([type(found), len(found)], [tuple, 2])
        for head, ring in found:
            self.assertTrue(len(head) <= 3000 and 1 <= len(ring) <= 3000)
            self.assertTrue(all(type(item) is int and 0 <= item < len(kind[0]) for item in head + ring))
        heads = max(len(head) for head, _ in found)
        rings = len(found[0][1]) * len(found[1][1])
        if len(found[0][1]) == len(found[1][1]):
            rings = len(found[0][1])
        self.assertNotEqual(*[written_out(endless, heads + rings) for endless in found])
        # Behind so many latches all comes again: the pair of the trains, and the place in both rings.
        pairs = len(slow_coming(kind, train)) ** 2
        latches = min(heads + rings * (pairs + 1), 20000)
        self.assertEqual(*[slow_left_long(kind, train, endless, latches) for endless in found])

    def test_example(self):
        told(self, """
            >>> [look_ahead(U, (0,)), look_ahead(D, (0,)), height_paper(U, (0,)), is_height_paper(D, (0,), (((0,), (1,), 5),)), look_ahead((((0, 0), (0, 0)),), (0,)), left_as_one(D, (0,))]
            [0, 1, (), True, None, None]
            """, dict(U=U, D=D, look_ahead=look_ahead, height_paper=height_paper, is_height_paper=is_height_paper,
                      left_as_one=left_as_one))

    def test_beside_slow_reading(self):
        rng = random.Random(70)
        found = {}
        for _ in range(600):
            kind, train = draw(rng)
            if len(slow_coming(kind, train)) > 40:
                continue
            steps, begins = slow_parted(kind, train)
            if len(steps) > 300:
                continue
            walks = slow_walks(steps)
            ahead = None if walks is None else max([walks[pair] + 1 for pair in begins], default=0)
            self.assertEqual(look_ahead(kind, train), ahead)
            found[ahead] = found.get(ahead, 0) + 1
            paper, as_one = height_paper(kind, train), left_as_one(kind, train)
            # [3]: it tells endless roads apart if and only if there is a height paper.
            self.assertEqual([paper is None, as_one is None], [walks is None, walks is not None])
            if paper is None:
                self.check_as_one(kind, train, as_one)
            else:
                self.assertTrue(slow_paper(kind, train, paper))
                self.assertIs(is_height_paper(kind, train, paper), True)
        self.assertTrue(all(found.get(ahead, 0) > 10 for ahead in (None, 0, 1, 2)), found)

    def test_look_ahead_beside_roads(self):
        rng = random.Random(71)
        found = set()
        for _ in range(250):
            kind = delaying_kind(rng, 2) if rng.random() < 0.7 else drawn_kind(rng, 2, rng.randint(1, 3))
            train = drawn_train(rng, kind, 2)
            if len(slow_coming(kind, train)) > 5:
                continue
            ahead = look_ahead(kind, train)
            slow = slow_ahead(kind, train, 9)
            found.add(ahead)
            if ahead is not None and ahead < 5:
                self.assertEqual(slow, ahead)
            elif ahead is None:
                # Roads that are left alike for good are so for as many latches as are tried.
                self.assertTrue(slow is None or slow >= 5)
        self.assertLessEqual({None, 0, 1, 2}, found)

    def test_papers_spoilt(self):
        rng = random.Random(72)
        found = [0, 0]
        tried = 0
        while tried < 120:
            kind, train = draw(rng)
            if len(slow_coming(kind, train)) > 20:
                continue
            paper = height_paper(kind, train)
            if not paper or len(paper) > 40:
                continue
            tried += 1
            spoilt = [paper[:at] + paper[at + 1:] for at in range(len(paper))] + [paper[::-1], paper + paper[-1:], ()]
            for at, (first, second, height) in enumerate(paper):
                for other in (0, height - 1, height + 1, 1000, 1001, rng.randint(0, 5)):
                    spoilt.append(paper[:at] + ((first, second, other),) + paper[at + 1:])
                spoilt.append(tuple(sorted(paper + ((first, second, height + 1),))))
                spoilt.append(tuple(sorted(paper + ((second, first, height),))))
                spoilt.append(paper[:at] + ((second, first, height),) + paper[at + 1:])
            both = [drawn_train(rng, kind, 2) for _ in range(2)]
            spoilt.append(tuple(sorted(paper + ((both[0], both[1], 3),))))
            spoilt.append(tuple((first, second, height + 7) for first, second, height in paper))
            spoilt.append(tuple((first, second, 3 * height) for first, second, height in paper))
            for value in spoilt:
                right = slow_paper(kind, train, value)
                self.assertIs(is_height_paper(kind, train, value), right, value)
                found[right] += 1
        self.assertGreater(min(found), 200, found)

    def test_any_value_for_a_paper(self):
        right = (((0,), (1,), 5),)
        for value in SPOILT + [(), list(right), [], ([(0,), (1,), 5],), (((0,), (1,)),), (((0,), (1,), 5, 5),),
                               ((([0], (1,), 5)),), (((0,), (1,), True),), (((0,), (True,), 5),), (((0,), (2,), 5),),
                               (((0,), (1,), -1),), (((0,), (1,), 1001),), (((0,), (1,), None),), (((0,), (1,), "5"),),
                               (((0,), (1,), BIG),), (((0,), None, 5),), ((None, (1,), 5),), ((0, 1, 5),),
                               right + right, right + (0,), (0,) + right, right + (((0,), (1,), 6),),
                               (((0,), (1, 1), 5),), (((1,), (0,), 5),), right + (((0, 0), (1,), 0),),
                               right + (((0,) * 61, (1,) * 61, 0),)]:
            self.assertIs(is_height_paper(D, (0,), value), False, value)
        for value in (right, (((0,), (1,), 0),), (((0,), (1,), 1000),), right + (((1,), (0,), 0),),
                      right + (((0,) * 60, (1,) * 60, 1),)):
            self.assertIs(is_height_paper(D, (0,), tuple(sorted(value))), slow_paper(D, (0,), tuple(sorted(value))))
        self.assertIs(is_height_paper(D, (0,), right), True)
        self.assertIs(is_height_paper(D, (0,), right + (((1,), (0,), 0),)), True)
        self.assertIs(is_height_paper(U, (0,), ()), True)
        # Two empty trains leave each latch alike in one setting, and lead to themselves.
        self.assertIs(is_height_paper(U, (0,), (((), (), 7),)), False)
        self.assertIs(is_height_paper(U, (0,), (((0,), (0,), 1000),)), False)

    def test_papers_of_a_thousand(self):
        # Two trains the last walkers of which are unlike leave no latch alike, so such pairs lead to no others.
        rows = all_rows(6, 2)
        ends = [(one, two, 0) for one in rows for two in rows if one[1] != two[1]]
        singles = [((one,), (two,), 0) for one in range(6) for two in range(6) if one != two]
        for many in (999, 1000, 1001):
            value = tuple(sorted(singles + ends[:many - 30]))
            self.assertEqual(len(value), many)
            self.assertIs(is_height_paper(DELAY, (0,), value), many <= 1000)

    def test_walkers_that_tell_later(self):
        # Of k walkers, each of which leaves what it found ahead, unlike settings come to light k latches later.
        for settings, most in ((2, 6), (3, 3), (4, 2), (6, 2)):
            kind = tuple(tuple((sort, setting) for setting in range(settings)) for sort in range(settings))
            for walkers in range(most + 1):
                outcome = raised(lambda: look_ahead(kind, (0,) * walkers))
                if outcome != "TooMany(1000)":
                    self.assertEqual(look_ahead(kind, (0,) * walkers), walkers)
                    self.assertIsNone(left_as_one(kind, (0,) * walkers))
        self.assertEqual(len(height_paper(DELAY, (0, 0))), 630)
        self.assertIs(is_height_paper(DELAY, (0, 0), height_paper(DELAY, (0, 0))), True)

    def test_unlike_roads_of_all_lengths_alike(self):
        # [3]: it can be that unlike roads of all lengths are left alike, and no endless ones.
        for latches in range(1, 8):
            lefts = [slow_left(D, (0,), road) for road in all_rows(2, latches)]
            self.assertLess(len(set(lefts)), len(lefts))
        self.assertEqual([look_ahead(D, (0,)), left_as_one(D, (0,))], [1, None])

    def test_what_keeps_tells_apart_at_once(self):
        rng = random.Random(73)
        for _ in range(40):
            kind = one_to_one_kind(rng, rng.randint(1, 6), rng.randint(1, 6))
            train = drawn_train(rng, kind, 2)
            self.assertEqual([look_ahead(kind, train), height_paper(kind, train), left_as_one(kind, train)],
                             [0, (), None])

    def test_no_walkers_one_setting_one_sort(self):
        for kind, train in ((U, ()), (LOSE, ()), ((((0, 0),),), (0,) * 6), ((((0, 1),), ((0, 0),)), (0, 1)),
                            (((((1, 0), (2, 0), (0, 0)),)), (0,) * 6)):
            self.assertEqual([look_ahead(kind, train), height_paper(kind, train), left_as_one(kind, train)],
                             [0, (), None])
            self.assertIs(is_height_paper(kind, train, ()), True)
        for walkers in (1, 6):
            self.assertEqual([look_ahead(LOSE, (0,) * walkers), height_paper(LOSE, (0,) * walkers)], [None, None])
            self.check_as_one(LOSE, (0,) * walkers, left_as_one(LOSE, (0,) * walkers))
            self.assertIs(is_height_paper(LOSE, (0,) * walkers, (((0,) * walkers, (0,) * walkers, 9),)), False)
        six = (((0, 0),) * 6,) * 6
        self.check_as_one(six, (5,), left_as_one(six, (5,)))

    def test_limit_of_trains(self):
        for kind, train in (FEW_1001, STILL_1001):
            for function in (look_ahead, height_paper, left_as_one):
                self.assertEqual(raised(lambda: function(kind, train)), "TooMany(1000)")
                self.assertEqual(raised(lambda: function(kind, train + (6,))), "InvalidTrain")
            for value in ((), None, 0, (((0,), (1,), 5),)):
                self.assertEqual(raised(lambda: is_height_paper(kind, train, value)), "TooMany(1000)")
        kind, train = STILL_1000
        self.assertEqual([look_ahead(kind, train), height_paper(kind, train), left_as_one(kind, train)], [0, (), None])
        self.assertIs(is_height_paper(kind, train, ()), True)

    def test_limit_of_pairs(self):
        self.assertEqual([len(slow_parted(*PARTED_1000)[0]), len(slow_parted(*PARTED_1001)[0])], [1000, 1001])
        for function in (look_ahead, height_paper, left_as_one):
            self.assertEqual(raised(lambda: function(*PARTED_1001)), "TooMany(1000)")
        self.assertEqual(raised(lambda: is_height_paper(*PARTED_1001, ())), "TooMany(1000)")
        self.assertEqual([look_ahead(*PARTED_1000), height_paper(*PARTED_1000)], [None, None])
        self.assertIs(is_height_paper(*PARTED_1000, ()), False)
        self.check_as_one(*PARTED_1000, left_as_one(*PARTED_1000))

    def test_wrong_arguments(self):
        rows = [wrong("kind"), wrong("few walkers")]
        for function in (look_ahead, height_paper, left_as_one):
            check_wrong(self, function, (U, (0, 1)), rows)
        check_wrong(self, is_height_paper, (U, (0, 1), ()), rows)
