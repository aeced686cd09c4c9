"""Trains sent again and again [7], [40]."""

import random
import unittest

from latchroads.sendings import round_of, sent_again
from tests.helper import BIG, U, check_wrong, drawn_kind, drawn_road, drawn_train, raised, slow_passed, told, wrong

# As U, but with latches in the setting 2 that are in the setting 3 behind the
# first walker, and pass all walkers as they are.
W = (((1, 1), (0, 0), (3, 0), (3, 0)), ((0, 1), (1, 1), (2, 1), (3, 1)))


def slow_standings(kind, train, road):
    """The standings one by one, up to the first that comes again, and the index of this."""
    standings = []
    while road not in standings:
        standings.append(road)
        road = slow_passed(kind, train, road)[0]
    return standings, standings.index(road)


class SendingsTest(unittest.TestCase):

    def test_example(self):
        told(self, """
            >>> [round_of(U, (0,), (0, 0, 0)), round_of(U, (0, 0), (1,)), round_of(U, (1,), (0, 1)), sent_again(U, (0,), (0, 0, 0), 5), sent_again(U, (0,), (0, 0, 0), 10 ** 18 - 1)]
            [(0, 8), (0, 1), (0, 1), (1, 0, 1), (1, 1, 1)]
            """, dict(U=U, round_of=round_of, sent_again=sent_again))

    def test_beside_slow_reading(self):
        rng = random.Random(40)
        for _ in range(200):
            kind = drawn_kind(rng)
            train, road = drawn_train(rng, kind, 3), drawn_road(rng, kind, 4)
            standings, first = slow_standings(kind, train, road)
            long = len(standings) - first
            self.assertEqual(round_of(kind, train, road), (first, long))
            self.assertEqual(sent_again(kind, train, road, 0), road)
            for times in range(len(standings)):
                self.assertEqual(sent_again(kind, train, road, times), standings[times])
                later = times + rng.randrange(10 ** 15) * long
                if times >= first:
                    self.assertEqual(sent_again(kind, train, road, later), standings[times])
            times = first + (10 ** 18 - first) % long
            self.assertEqual(sent_again(kind, train, road, 10 ** 18), standings[times])

    def test_some_kinds_have_a_beginning(self):
        kind = (((1, 0), (2, 0), (3, 0), (2, 0)),)
        self.assertEqual(round_of(kind, (0,), (0,)), (2, 2))
        self.assertEqual(round_of(kind, (0, 0, 0), (0,)), (1, 2))
        self.assertEqual([sent_again(kind, (0,), (0,), times)[0] for times in range(7)], [0, 1, 2, 3, 2, 3, 2])

    def test_nothing_goes_or_stands(self):
        for train, road in (((), ()), ((), (0, 1)), ((0, 1), ())):
            self.assertEqual(round_of(U, train, road), (0, 1))
            for times in (0, 1, 10 ** 18):
                self.assertEqual(sent_again(U, train, road, times), road)

    def test_sixty_of_each(self):
        kind = tuple(tuple(((setting + 1) % 6, (sort + 1) % 6) for setting in range(6)) for sort in range(6))
        train, road = tuple(walker % 6 for walker in range(60)), tuple(latch % 6 for latch in range(60))
        self.assertEqual(round_of(kind, train, road), (0, 1))
        self.assertEqual(round_of(kind, train[:59], road), (0, 6))
        self.assertEqual(sent_again(kind, train[:59], road, 10 ** 18), sent_again(kind, train[:59], road, 4))

    def test_limit_just_kept(self):
        self.assertEqual(round_of(U, (0,), (0,) * 12), (0, 4096))
        self.assertEqual(round_of(W, (0,), (3,) + (0,) * 12), (0, 4096))
        self.assertEqual(sent_again(U, (0,), (0,) * 12, 10 ** 18), sent_again(U, (0,), (0,) * 12, 10 ** 18 % 4096))
        self.assertEqual(sent_again(W, (0,), (3,) + (0,) * 12, 4096), (3,) + (0,) * 12)

    def test_limit_just_passed(self):
        road = (2,) + (0,) * 12
        self.assertEqual(raised(lambda: round_of(W, (0,), road)), "TooMany(4096)")
        self.assertEqual(sent_again(W, (0,), road, 4095), (3,) + (1,) * 12)
        for times in (4096, 4097, 10 ** 18):
            self.assertEqual(raised(lambda: sent_again(W, (0,), road, times)), "TooMany(4096)")

    def test_few_sendings_of_a_long_round(self):
        self.assertEqual(sent_again(U, (0,), (0,) * 60, 4095), (1,) * 12 + (0,) * 48)
        self.assertEqual(raised(lambda: sent_again(U, (0,), (0,) * 60, 4096)), "TooMany(4096)")
        self.assertEqual(raised(lambda: round_of(U, (0,), (0,) * 60)), "TooMany(4096)")

    def test_too_many_behind_wrong_number(self):
        for times in (-1, True, None, 10 ** 18 + 1, BIG):
            self.assertEqual(raised(lambda: sent_again(U, (0,), (0,) * 60, times)), "InvalidNumber")

    def test_wrong_arguments(self):
        rows = [wrong("kind"), wrong("train"), wrong("road")]
        check_wrong(self, round_of, (U, (0, 1), (1, 0)), rows)
        check_wrong(self, sent_again, (U, (0, 1), (1, 0), 5), rows + [wrong("number", 0, 10 ** 18)])
