"""Endless roads as numbers, and trains that reckon [31], [73], and what [3] says of them."""

import math
import random
import unittest
from fractions import Fraction

from latchroads.endless import left_endless
from latchroads.kindtexts import read_kind
from latchroads.reckoning import does_reckon, endless_told, number_told, reckon_bar
from tests.helper import (D, STILL_1000, STILL_1001, U, all_rows, check_wrong, drawn_endless, drawn_kind, drawn_train,
                          raised, rows_up_to, slow_coming, slow_left, slow_passed, slow_shortest, told, written_out,
                          wrong)

# Just so many pairs of a train and of what is carried come of these.
CARRIED = [(read_kind("1a2d0a 0a1c2a 2c0e1b 2b0b0c 0a2a1c"), (2, 3, 1, 0, 1, 1), 15, -9, 17, 1000),
           (read_kind("0c1e 0a1d 1b0b 0f1a 1e0a 0a1c"), (3, 4, 4, 5, 5, 3), 20, 14, 14, 1001),
           (*STILL_1000, 1, 0, 1, 1000), (*STILL_1001, 1, 0, 1, 1001), (*STILL_1000, 7, 0, 7, 1000)]


def adding_kind(settings, sorts, times=1):
    """A kind whose sorts tell what is carried: the figures of a number are taken so many times, and it is added."""
    return tuple(tuple((lambda whole: (whole % settings, whole // settings))(times * at + sort)
                       for at in range(settings)) for sort in range(sorts))


def slow_number(endless, settings):
    """The number of an endless road by the words of [31], as a fraction."""
    head, ring = endless
    total = Fraction(sum(setting * settings ** at for at, setting in enumerate(head)))
    ring_sum = sum(setting * settings ** (len(head) + at) for at, setting in enumerate(ring))
    return total - Fraction(ring_sum, settings ** len(ring) - 1)


def slow_bar(kind, train, a, b, c, most):
    """The least tuple of settings, of at most so many, that is a bar: it is reckoned with whole numbers alone."""
    settings = len(kind[0])
    bars = []
    for road in rows_up_to(settings, most):
        if any(road[:len(bar)] == bar for bar in bars):
            continue
        # All endless roads that begin so are alike below the power, and so is what they are left as.
        number = sum(setting * settings ** at for at, setting in enumerate(road))
        left = sum(setting * settings ** at for at, setting in enumerate(slow_left(kind, train, road)))
        if (c * left - a * number - b) % settings ** len(road):
            bars.append(road)
    return bars[0] if bars else None


def slow_carried(kind, train, a, b, c):
    """All pairs of a train and of what is carried that come."""
    met = [(train, b)]
    known = set(met)
    for first, carried in met:
        for setting in range(len(kind[0])):
            left, out = slow_passed(kind, first, (setting,))
            part = Fraction(carried + a * setting - c * left[0], len(kind[0]))
            if part.denominator == 1 and (out, int(part)) not in known:
                met.append((out, int(part)))
                known.add((out, int(part)))
    return met


def reckons_on(kind, train, a, b, c, endless):
    """Whether c times the number of the endless road left is a times its number, and b."""
    settings = len(kind[0])
    left = left_endless(kind, train, endless)
    return c * slow_number(left, settings) == a * slow_number(endless, settings) + b


class ReckoningTest(unittest.TestCase):

    def test_example(self):
        told(self, """
            >>> [number_told(U, ((), (1,))), number_told(U, ((0,), (1, 0))), endless_told(U, 1, 3), does_reckon(U, (0,), 1, 1, 1), reckon_bar(U, (1,), 1, 1, 1), does_reckon(D, (0,), 2, 0, 1)]
            [(-1, 1), (-2, 3), ((1,), (1, 0)), True, (0,), True]
            """, dict(U=U, D=D, number_told=number_told, endless_told=endless_told, does_reckon=does_reckon,
                      reckon_bar=reckon_bar))

    def test_numbers_beside_fractions(self):
        rng = random.Random(73)
        signs = set()
        for _ in range(500):
            kind = drawn_kind(rng, rng.randint(2, 6), 1)
            endless = drawn_endless(rng, kind)
            number = slow_number(endless, len(kind[0]))
            found = number_told(kind, endless)
            self.assertEqual(found, (number.numerator, number.denominator))
            self.assertEqual(slow_number(slow_shortest(endless), len(kind[0])), number)
            signs.add((number > 0) - (number < 0))
        self.assertEqual(signs, {-1, 0, 1})

    def test_numbers_agree_with_their_first_settings(self):
        # The first settings tell what is left over by powers of the number of settings.
        rng = random.Random(74)
        for _ in range(200):
            settings = rng.randint(2, 6)
            kind = drawn_kind(rng, settings, 1)
            endless = drawn_endless(rng, kind)
            upper, lower = number_told(kind, endless)
            power = settings ** 30
            whole = sum(setting * settings ** at for at, setting in enumerate(written_out(endless, 30)))
            self.assertEqual((upper - lower * whole) % power, 0)

    def test_told_roads_have_their_numbers(self):
        rng = random.Random(75)
        tried = 0
        while tried < 400:
            settings = rng.randint(2, 6)
            kind = drawn_kind(rng, settings, 1)
            lower = rng.randint(1, 200)
            upper = rng.randint(-300, 300)
            if math.gcd(lower, settings) > 1:
                self.assertEqual(raised(lambda: endless_told(kind, upper, lower)), "InvalidNumber")
                continue
            tried += 1
            endless = endless_told(kind, upper, lower)
            self.assertEqual(slow_number(endless, settings), Fraction(upper, lower))
            self.assertEqual(endless, slow_shortest(endless))

    def test_there_and_back(self):
        rng = random.Random(76)
        for _ in range(300):
            kind = drawn_kind(rng, rng.randint(2, 6), 1)
            endless = slow_shortest(drawn_endless(rng, kind))
            upper, lower = number_told(kind, endless)
            if abs(upper) <= 10 ** 6 and lower <= 10 ** 6:
                self.assertEqual(endless_told(kind, upper, lower), endless)
                if abs(upper) <= 10 ** 5 and lower <= 10 ** 5:
                    self.assertEqual(endless_told(kind, upper * 7, lower * 7), endless)

    def test_ends_of_the_ranges(self):
        for upper in (-10 ** 6, -999999, 0, 1, 999999, 10 ** 6):
            for settings in range(2, 7):
                kind = (tuple((at, 0) for at in range(settings)),)
                endless = endless_told(kind, upper, 1)
                self.assertEqual(slow_number(endless, settings), upper)
                self.assertEqual(endless[1], (0,) if upper >= 0 else (settings - 1,))
        three = (((0, 0), (1, 0), (2, 0)),)
        self.assertEqual(raised(lambda: endless_told(three, 1, 999999)), "InvalidNumber")
        self.assertEqual(raised(lambda: endless_told(U, 1, 10 ** 6)), "InvalidNumber")
        self.assertEqual(raised(lambda: endless_told(three, 1, 10 ** 6)), "TooMany(1000)")
        # The ring is as long as the power of 2 that leaves 1 over: 1000, and 1001, or more than can be told.
        for lower, many in ((4001, 1000), (6007, 1001), (999983, 499991)):
            self.assertEqual(next(at for at in range(1, 10 ** 6) if pow(2, at, lower) == 1), many)
            if many > 1000:
                self.assertEqual(raised(lambda: endless_told(U, -1, lower)), "TooMany(1000)")
            else:
                endless = endless_told(U, -1, lower)
                self.assertEqual([len(endless[0]), len(endless[1])], [0, many])
                self.assertEqual(slow_number(endless, 2), Fraction(-1, lower))
                self.assertEqual(len(endless_told(U, 10 ** 6, lower)[1]), many)

    def test_whole_numbers(self):
        self.assertEqual([endless_told(U, number, 1) for number in (0, 1, 6, -1, -6)],
                         [((), (0,)), ((1,), (0,)), ((0, 1, 1), (0,)), ((), (1,)), ((0, 1, 0), (1,))])
        self.assertEqual([endless_told(U, 6, 3), endless_told(U, 0, 999999), endless_told(U, -999999, 999999)],
                         [((0, 1), (0,)), ((), (0,)), ((), (1,))])
        self.assertEqual([number_told(U, ((), (0,))), number_told(U, ((1,) * 12, (0,) * 12)),
                          number_told(U, ((0,) * 12, (1,) * 12))], [(0, 1), (4095, 1), (-4096, 1)])

    def test_kinds_that_reckon(self):
        # Figures that are taken times a number, and added to: each walker does so once more.
        for settings in range(2, 7):
            for times in range(1, 5):
                kind = adding_kind(settings, min(6, max(times, 2)), times)
                for train in rows_up_to(len(kind), 2):
                    a, b = 1, 0
                    for sort in train:
                        a, b = a * times, b * times + sort
                    if a > 20 or b > 20:
                        continue
                    self.assertIs(does_reckon(kind, train, a, b, 1), True)
                    self.assertIsNone(reckon_bar(kind, train, a, b, 1))
                    if 3 * a <= 20 and 3 * b <= 20:
                        self.assertIs(does_reckon(kind, train, 3 * a, 3 * b, 3), True)
                    self.assertIs(does_reckon(kind, train, a, b - 1, 1), False)
                    self.assertEqual(does_reckon(kind, train, a - 1, b, 1), False)
                    if a > 1:
                        bar = reckon_bar(kind, train, a, b, a)
                        self.assertEqual(bar, slow_bar(kind, train, a, b, a, len(bar)))

    def test_kinds_that_take_parts(self):
        # 3 times the number left is the number, or this and 3 less: the sorts tell what is left to take away.
        rows = []
        for carried in range(3):
            row = []
            for setting in range(2):
                left = next(at for at in range(2) if (setting - carried - 3 * at) % 2 == 0)
                row.append((left, -(setting - carried - 3 * left) // 2))
            rows.append(tuple(row))
        third = tuple(rows)
        self.assertTrue(all(0 <= behind < 3 for row in third for _, behind in row))
        for sort in range(3):
            self.assertEqual([does_reckon(third, (sort,), 1, -sort, 3), reckon_bar(third, (sort,), 1, -sort, 3)],
                             [True, None])
            self.assertIs(reckons_on(third, (sort,), 1, -sort, 3, ((1, 0, 1), (0, 1, 1))), True)
            self.assertIs(does_reckon(third, (sort,), 1, sort + 1, 3), False)
        self.assertEqual([does_reckon(U, (0,) * 5, 1, 5, 1), does_reckon(U, (0, 1, 0), 2, 4, 2)], [True, True])

    def test_negative_rates(self):
        # Turning all settings over takes a number from -1: 1 times the one left is -1 times it, and -1.
        for settings in range(2, 7):
            over = (tuple((settings - 1 - at, 0) for at in range(settings)),)
            self.assertEqual([does_reckon(over, (0,), -1, -1, 1), does_reckon(over, (0,) * 2, 1, 0, 1),
                              does_reckon(over, (0,), -20, -20, 20), does_reckon(over, (0,), -1, 0, 1)],
                             [True, True, True, False])
        zero = (((0, 0), (0, 0)),)
        self.assertEqual([does_reckon(zero, (0,), 0, 0, 20), does_reckon(zero, (0,), 1, 0, 1)], [True, False])

    def test_beside_numbers_and_bars(self):
        rng = random.Random(77)
        found = {True: 0, False: 0}
        lengths = set()
        for _ in range(700):
            settings = rng.randint(2, 4)
            kind = adding_kind(settings, rng.randint(1, 3)) if rng.random() < 0.5 else drawn_kind(rng, settings, 3)
            kind = tuple(tuple((left, min(behind, len(kind) - 1)) for left, behind in row) for row in kind)
            if rng.random() < 0.3:
                # Deep in the road, something else is done.
                rows = [list(row) for row in kind]
                rows[-1][rng.randrange(settings)] = (rng.randrange(settings), rng.randrange(len(kind)))
                kind = tuple(map(tuple, rows))
            train = drawn_train(rng, kind, 3)
            c = rng.choice((1, 1, 1, 2, 3, settings))
            a, b = c * rng.choice((0, 1, 1, 1, 2)), c * rng.choice((0, sum(train), sum(train), 1, -1))
            if abs(b) > 20 or len(slow_carried(kind, train, a, b, c)) > 1000:
                continue
            bar = reckon_bar(kind, train, a, b, c)
            self.assertIs(does_reckon(kind, train, a, b, c), bar is None)
            most = {2: 7, 3: 5, 4: 4}[settings]
            slow = slow_bar(kind, train, a, b, c, most)
            if bar is None or len(bar) <= most:
                self.assertEqual(bar, slow)
            found[bar is None] += 1
            lengths.add(None if bar is None else len(bar))
            # [3]: it reckons if and only if there is no bar.
            for _ in range(6):
                endless = drawn_endless(rng, kind)
                if bar is None:
                    self.assertTrue(reckons_on(kind, train, a, b, c, endless))
            if bar is not None:
                self.assertFalse(reckons_on(kind, train, a, b, c, (bar[:12], (0,))) and len(bar) <= 12)
        self.assertGreater(min(found.values()), 40, found)
        self.assertLessEqual({None, 1, 2, 3}, lengths)

    def test_no_walkers_six_walkers_six_settings(self):
        six = tuple(tuple(((at + sort) % 6, (at + sort) // 6) for at in range(6)) for sort in range(2))
        self.assertEqual([does_reckon(six, (), 1, 0, 1), does_reckon(six, (), 20, 0, 20), does_reckon(six, (), 1, 1, 1),
                          reckon_bar(six, (), 1, 1, 1), does_reckon(six, (1,) * 6, 1, 6, 1),
                          does_reckon(six, (1, 0, 1, 0, 1, 0), 3, 9, 3), reckon_bar(six, (1,) * 6, 1, 0, 1)],
                         [True, True, False, (0,), True, True, slow_bar(six, (1,) * 6, 1, 0, 1, 3)])
        self.assertEqual(reckon_bar(six, (), 2, 0, 1), (1,))
        self.assertEqual(reckon_bar(U, (), 1, 4, 1), (0, 0, 0))
        self.assertEqual(reckon_bar(U, (), 1, 16, 1), (0,) * 5)

    def test_limit(self):
        for kind, train, a, b, c, many in CARRIED:
            self.assertEqual(len(slow_carried(kind, train, a, b, c)), many)
            for function in (does_reckon, reckon_bar):
                outcome = raised(lambda: function(kind, train, a, b, c))
                self.assertIs(outcome == "TooMany(1000)", many > 1000)
                self.assertEqual(raised(lambda: function(kind, train, a, b, 0)), "InvalidNumber")
            if many <= 1000:
                bar = reckon_bar(kind, train, a, b, c)
                self.assertEqual(bar, slow_bar(kind, train, a, b, c, 2 if bar is None else len(bar)))
        # The trains may be more, if they are not come to: a bar ends the way.
        self.assertEqual(len(slow_coming(*STILL_1001)), 1001)
        self.assertEqual(reckon_bar(*STILL_1001, 0, 1, 6), (0,))

    def test_wrong_arguments(self):
        kinds = wrong("reckoning kind")
        rows = [kinds, wrong("few walkers"), wrong("number", -20, 20), wrong("number", -20, 20), wrong("number", 1, 20)]
        for function in (does_reckon, reckon_bar):
            check_wrong(self, function, (U, (0, 1), 1, 1, 1), rows)
            for args in ((U, (0,), -20, -20, 20), (U, (0,), 20, 20, 1)):
                self.assertIn("no error", raised(lambda: function(*args)))
        check_wrong(self, number_told, (U, ((), (0,))), [kinds, wrong("endless")])
        name, values = wrong("number", 1, 10 ** 6)
        check_wrong(self, endless_told, (U, 1, 3),
                    [kinds, wrong("number", -10 ** 6, 10 ** 6), (name, values + [2, 6, 10 ** 6])])
