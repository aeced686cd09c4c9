"""Logs of what is done to a road [35], [36], [80], and what [3] says of them."""

import random
import unittest

from latchroads.logs import first_latches, is_log, log_roads
from tests.helper import (BIG, KIND_LIKES, LOG_LIKES, SPOILT, U, Y, check_new_list, check_wrong, drawn_kind, drawn_log,
                          slow_log_roads, told, wrong)

WORDS = ("send", "set", "join", "cut")


def slow_is_log(kind, road, deeds):
    """Whether a road of a kind and a tuple of deeds, each of the right form, are a log."""
    latches = len(road)
    for deed in deeds:
        if deed[0] == "set" and deed[1] >= latches or deed[0] == "cut" and latches == 0:
            return False
        latches += {"join": 1, "cut": -1}.get(deed[0], 0)
        if latches > 12:
            return False
    return len(road) <= 12 and len(deeds) <= 30 and all(len(deed[1]) <= 6 for deed in deeds if deed[0] == "send")


def slow_first(log, many):
    """The log on so many first latches, by the words of [36]."""
    kind, road, deeds = log
    latches = len(road)
    kept = []
    for deed in deeds:
        if deed[0] == "send":
            kept.append(deed)
        elif deed[0] == "set":
            if deed[1] < many:
                kept.append(deed)
        elif deed[0] == "join":
            if latches < many:
                kept.append(deed)
            latches += 1
        else:
            if latches <= many:
                kept.append(deed)
            latches -= 1
    return kind, road[:many], tuple(kept)


class LogsTest(unittest.TestCase):

    def test_example(self):
        told(self, """
            >>> Y = (U, (1, 0), (("send", (0, 0)), ("set", 0, 1), ("join", 0), ("send", (0,))))
            >>> [is_log(Y), is_log((U, (), (("cut",),))), log_roads(Y), first_latches(Y, 1)[1:]]
            [True, False, [(1, 0), (1, 1), (1, 1), (1, 1, 0), (0, 0, 1)], ((1,), (('send', (0, 0)), ('set', 0, 1), ('send', (0,))))]
            """, dict(U=U, is_log=is_log, log_roads=log_roads, first_latches=first_latches))

    def test_any_value(self):
        for value in SPOILT + KIND_LIKES + LOG_LIKES + [list(Y), Y + (0,), Y[:2], (Y,), (Y[0], Y[1], list(Y[2]))]:
            self.assertIs(is_log(value), False, value)
        for value in (Y, (U, (), ()), (U, (0,) * 12, ()), (U, (), (("send", ()),) * 30), (U, (0,), (("cut",),)),
                      (U, (), (("join", 1), ("set", 0, 0), ("cut",)) * 10), (U, (1,), (("set", 0, 1),)),
                      (U, (0,), (("send", (0, 1) * 3),)), (U, (0,) * 11, (("join", 0), ("cut",), ("join", 1))),
                      ((((0, 0),),), (), (("join", 0),))):
            self.assertIs(is_log(value), True, value)

    def test_values_spoilt(self):
        # At each place of a log stands another value: an integer that may fit, or what never does.
        rng = random.Random(80)
        found = {True: 0, False: 0}
        for _ in range(60):
            kind, road, deeds = drawn_log(rng, 8)
            for at, deed in enumerate(deeds):
                for place in range(len(deed)):
                    for value in (True, False, None, "1", BIG, -1, [], [0], (None,), ("a",), (True,)):
                        spoilt = deed[:place] + (value,) + deed[place + 1:]
                        others = deeds[:at] + (spoilt,) + deeds[at + 1:]
                        self.assertIs(is_log((kind, road, others)), False, others)
                for spoilt in (deed + (0,), deed[:-1], (deed[0] + " ",) + deed[1:], (deed[0].upper(),) + deed[1:],
                               list(deed), (deed,), deed[1:]):
                    self.assertIs(is_log((kind, road, deeds[:at] + (spoilt,) + deeds[at + 1:])), False, spoilt)
                others = deeds[:at] + deeds[at + 1:]
                right = slow_is_log(kind, road, others)
                self.assertIs(is_log((kind, road, others)), right)
                found[right] += 1
                if deed[0] == "set":
                    for index in range(14):
                        others = deeds[:at] + (("set", index, deed[2]),) + deeds[at + 1:]
                        self.assertIs(is_log((kind, road, others)), slow_is_log(kind, road, others))
                    for setting in range(8):
                        others = deeds[:at] + (("set", deed[1], setting),) + deeds[at + 1:]
                        self.assertIs(is_log((kind, road, others)), setting < len(kind[0]))
        self.assertGreater(min(found.values()), 5)

    def test_deeds_in_any_order(self):
        rng = random.Random(81)
        found = {True: 0, False: 0}
        for _ in range(600):
            kind, road, deeds = drawn_log(rng, 30)
            deeds = list(deeds)
            rng.shuffle(deeds)
            right = slow_is_log(kind, road, deeds)
            self.assertIs(is_log((kind, road, tuple(deeds))), right)
            found[right] += 1
            if not right:
                self.assertEqual(raised_by(lambda: log_roads((kind, road, tuple(deeds)))), "InvalidLog")
        self.assertGreater(min(found.values()), 50, found)

    def test_limits(self):
        for many in range(10, 15):
            self.assertIs(is_log((U, (0,) * many, ())), many <= 12)
            self.assertIs(is_log((U, (), (("join", 0),) * many)), many <= 12)
            self.assertIs(is_log((U, (0,) * many, (("cut",), ("join", 0)))), many <= 12)
        for many in range(28, 33):
            self.assertIs(is_log((U, (), (("send", (0,)),) * many)), many <= 30)
            self.assertIs(is_log((U, (0,), (("set", 0, 0),) * many)), many <= 30)
        for many in range(9):
            self.assertIs(is_log((U, (0,), (("send", (1,) * many),))), many <= 6)

    def test_roads_deed_by_deed(self):
        rng = random.Random(82)
        words = set()
        for _ in range(300):
            log = drawn_log(rng, 30)
            self.assertIs(is_log(log), True)
            self.assertEqual(log_roads(log), slow_log_roads(log))
            words |= {deed[0] for deed in log[2]}
        self.assertEqual(words, set(WORDS))
        self.assertEqual([log_roads((U, (), ())), log_roads((U, (1, 0), ()))], [[()], [(1, 0)]])

    def test_first_latches(self):
        # [3]: what stands in the first latches hangs on what was done at these alone.
        rng = random.Random(83)
        left_out = set()
        for _ in range(250):
            log = drawn_log(rng, 30)
            end = slow_log_roads(log)[-1]
            for many in range(13):
                first = first_latches(log, many)
                self.assertEqual(first, slow_first(log, many))
                self.assertIs(is_log(first), True)
                self.assertEqual(slow_log_roads(first)[-1], end[:many])
                left_out |= {(deed[0]) for deed in log[2] if deed not in first[2]}
            self.assertEqual(first_latches(log, 12), log)
        self.assertEqual(left_out, {"set", "join", "cut"})

    def test_joins_and_cuts_above_and_below(self):
        log = (U, (0, 1), (("join", 1), ("join", 0), ("cut",), ("cut",), ("cut",), ("join", 1), ("set", 1, 0),
                           ("send", (0,)), ("join", 1), ("set", 2, 0)))
        self.assertEqual([first_latches(log, many)[2] for many in (0, 1, 2, 3, 4, 12)], [
            (("send", (0,)),),
            (("send", (0,)),),
            (("cut",), ("join", 1), ("set", 1, 0), ("send", (0,))),
            (("join", 1), ("cut",), ("cut",), ("join", 1), ("set", 1, 0), ("send", (0,)), ("join", 1), ("set", 2, 0)),
            log[2], log[2]])
        self.assertEqual([first_latches(log, many)[1] for many in (0, 1, 2, 3)], [(), (0,), (0, 1), (0, 1)])

    def test_sends_are_kept(self):
        log = (U, (1,) * 12, (("send", (0, 1)), ("set", 11, 0), ("send", ())) * 10)
        self.assertEqual(first_latches(log, 11)[2], (("send", (0, 1)), ("send", ())) * 10)
        self.assertEqual(first_latches(log, 0), (U, (), (("send", (0, 1)), ("send", ())) * 10))
        six = drawn_kind(random.Random(84), 6, 6)
        log = (six, (5,) * 12, (("send", (0, 1, 2, 3, 4, 5)),) * 30)
        self.assertEqual(log_roads(log), slow_log_roads(log))

    def test_lists_are_new(self):
        check_new_list(self, log_roads, Y)

    def test_wrong_arguments(self):
        check_wrong(self, log_roads, (Y,), [wrong("log")])
        check_wrong(self, first_latches, (Y, 1), [wrong("log"), wrong("number", 0, 12)])


def raised_by(action):
    try:
        return repr(action())
    except ValueError as error:
        return type(error).__name__
