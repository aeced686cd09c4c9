"""The texts of kinds and cases [8], [42]."""

import random
import unittest

from latchroads.kindtexts import case_text, kind_text, read_case, read_kind
from tests.helper import SPOILT, U, check_wrong, drawn_kind, drawn_road, drawn_train, raised, told, wrong

SIGNS = "012345678abcdefgABF| -\n~x"


def template(settings, sorts):
    """For each sign of the text of a kind of some size, those that may stand there."""
    row = ["012345"[:settings], "abcdef"[:sorts]] * settings
    signs = list(row)
    for _ in range(sorts - 1):
        signs += [" "] + row
    return signs


TEMPLATES = {(settings, sorts): template(settings, sorts) for settings in range(1, 7) for sorts in range(1, 7)}


def rest_goes_on(rest, settings, sorts, whole):
    """Whether what stands behind a kind's text begins, or ends, that of a case."""
    if not rest:
        return not whole
    first, *parts = rest.split("|")
    if first or len(parts) > 2 or (whole and len(parts) < 2):
        return False
    signs = ("abcdef"[:sorts], "012345"[:settings])
    return all(len(part) <= 60 and all(sign in some for sign in part) for part, some in zip(parts, signs))


def goes_on(begin, case):
    """Whether the text of some kind, or case, begins so."""
    for (settings, sorts), signs in TEMPLATES.items():
        if all(sign in some for sign, some in zip(begin, signs)):
            rest = begin[len(signs):]
            if not rest or (case and rest_goes_on(rest, settings, sorts, False)):
                return True
    return False


def is_text(text, case):
    """Whether a string is the text of some kind, or case."""
    for (settings, sorts), signs in TEMPLATES.items():
        if len(text) >= len(signs) and all(sign in some for sign, some in zip(text, signs)):
            rest = text[len(signs):]
            if rest_goes_on(rest, settings, sorts, True) if case else not rest:
                return True
    return False


def slow_error(text, case):
    """What is raised for a string, by trying whether each beginning of it goes on."""
    for many in range(1, len(text) + 1):
        if not goes_on(text[:many], case):
            return "InvalidText(%d)" % (many - 1)
    return None if is_text(text, case) else "InvalidText(%d)" % len(text)


class KindTextsTest(unittest.TestCase):

    def judge(self, text):
        for read, write, case in ((read_kind, kind_text, False), (read_case, case_text, True)):
            error = slow_error(text, case)
            if error is None:
                value = read(text)
                self.assertEqual(write(*value) if case else write(value), text)
            else:
                self.assertEqual(raised(lambda: read(text)), error, text)

    def test_examples(self):
        told(self, """
            >>> [kind_text(U), read_kind("1b0a 0b1b") == U, case_text(U, (0, 1), (1, 0, 0)), read_case("0a||")]
            ['1b0a 0b1b', True, '1b0a 0b1b|ab|100', ((((0, 0),),), (), ())]
            >>> read_kind("0a2b 1a")
            raises InvalidText(4)
            """, dict(U=U, kind_text=kind_text, read_kind=read_kind, case_text=case_text, read_case=read_case))

    def test_there_and_back(self):
        rng = random.Random(42)
        for _ in range(200):
            kind = drawn_kind(rng)
            train, road = drawn_train(rng, kind, 60), drawn_road(rng, kind, 60)
            text = " ".join("".join("%d%s" % (left, "abcdef"[behind]) for left, behind in row) for row in kind)
            self.assertEqual(kind_text(kind), text)
            self.assertEqual(read_kind(text), kind)
            whole = "%s|%s|%s" % (text, "".join("abcdef"[s] for s in train), "".join(map(str, road)))
            self.assertEqual(case_text(kind, train, road), whole)
            self.assertEqual(read_case(whole), (kind, train, road))

    def test_texts_that_end_too_early(self):
        rng = random.Random(43)
        for _ in range(30):
            kind = drawn_kind(rng)
            text = case_text(kind, drawn_train(rng, kind, 5), drawn_road(rng, kind, 3))
            for many in range(len(text)):
                self.judge(text[:many])

    def test_wrong_at_each_sign(self):
        rng = random.Random(44)
        for sizes in ((1, 1), (1, 6), (6, 1), (2, 2), (3, 2), (2, 3), (6, 2), (1, 5)):
            kind = drawn_kind(rng, *sizes)
            text = case_text(kind, drawn_train(rng, kind, 3), drawn_road(rng, kind, 3))
            for at in range(len(text) + 1):
                for sign in SIGNS:
                    self.judge(text[:at] + sign + text[at + 1:])
                    self.judge(text[:at] + sign + text[at:])
                self.judge(text[:at] + text[at + 1:])

    def test_kind_texts_wrong_at_each_sign(self):
        rng = random.Random(45)
        for sizes in ((1, 1), (1, 6), (6, 1), (2, 2), (3, 2), (2, 3), (5, 3), (6, 6)):
            text = kind_text(drawn_kind(rng, *sizes))
            for at in range(len(text) + 1):
                for sign in "05af| x":
                    self.judge(text[:at] + sign + text[at + 1:])
                    self.judge(text[:at] + sign + text[at:])
                self.judge(text[:at])

    def test_drawn_strings(self):
        rng = random.Random(46)
        for _ in range(3000):
            text = ""
            while len(text) < 40 and rng.random() < 0.95:
                text += rng.choice(["0a", "1b", "0b", "1a", "2c", "5f", " ", " ", "|", "a", "0"])
            self.judge(text)

    def test_named_edges(self):
        for text, error in (("", 0), ("0", 1), ("0b", 2), ("0b 0a ", 6), ("1a", 2), ("0a 1a", 3), ("1a0", 3),
                            ("0a|", 2), ("0a0a 0a", 7), ("0a0a 0a 0a", 7), (" 0a", 0), ("0a  0a", 3),
                            ("0a0a0a0a0a0a0", 12), ("0a 0a 0a 0a 0a 0a 0a", 17), ("0A", 1), ("6a", 0), ("0g", 1),
                            ("0f 0a 0a 0a 0a", 14), ("5a5a5a5a5a 5a", 10), ("0a\n", 2), ("0a ", 3)):
            self.assertEqual(raised(lambda: read_kind(text)), "InvalidText(%d)" % error, text)
        self.assertEqual(read_kind("0a0a0a0a0a5a"), (((0, 0),) * 5 + ((5, 0),),))
        self.assertEqual(read_kind("0f 0a 0a 0a 0a 0a"), (((0, 5),),) + (((0, 0),),) * 5)

    def test_named_edges_of_cases(self):
        for text, error in (("", 0), ("0a", 2), ("0a|", 3), ("0a|a", 4), ("0a|b|", 3), ("0a||1", 4), ("0a|||", 4),
                            ("0a||0|", 5), ("0b|", 2), ("0a|" + "a" * 61 + "|", 63), ("0a|" + "a" * 60, 63),
                            ("0a||" + "0" * 61, 64), ("0a|0|", 3), ("0a||a", 4), ("0a| |", 3), ("1b0a|", 4)):
            self.assertEqual(raised(lambda: read_case(text)), "InvalidText(%d)" % error, text)
        self.assertEqual(read_case("0a|" + "a" * 60 + "|" + "0" * 60), ((((0, 0),),), (0,) * 60, (0,) * 60))

    def test_what_is_no_string(self):
        for value in SPOILT + [U, 0, 1]:
            if not isinstance(value, str):
                self.assertEqual(raised(lambda: read_kind(value)), "InvalidText(0)")
                self.assertEqual(raised(lambda: read_case(value)), "InvalidText(0)")

    def test_long_strings(self):
        for text in ("0a" * 2000, "a" * 4000, "0a||" + "0" * 3996, " " * 4000, "0a|" + "a" * 3997):
            self.judge(text)

    def test_wrong_arguments(self):
        check_wrong(self, kind_text, (U,), [wrong("kind")])
        check_wrong(self, case_text, (U, (0, 1), (1, 0)), [wrong("kind"), wrong("train"), wrong("road")])
