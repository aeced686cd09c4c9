"""Trains, walkers and sorts that can be exchanged [34], [78], and what [3] says of them."""

import itertools
import random
import unittest

from latchroads.exchanges import can_exchange, exchange_lots, led_orders, like_orders
from latchroads.kindtexts import read_kind
from tests.helper import (FEW_1000, FEW_1001, STILL_1000, STILL_1001, U, all_rows, check_new_list, check_wrong,
                          drawn_kind, drawn_road, drawn_train, mixed_kind, raised, slow_alike, slow_left,
                          slow_lot_coming, spun_kind, told, wrong)

O = (((0, 0), (0, 0)), ((1, 1), (1, 1)))
# Of two trains, the one behind the other in both orders, just so many trains come; and of all orders of a train.
BOTH = [(read_kind("0f1c 0d1e 0d1a 0e1f 0e1a 0a1b"), (2, 2, 5, 3, 4, 0), (2, 3, 2), 1000),
        (read_kind("1a0c 0b1a 1a0b"), (0, 0, 2, 1, 2), (1, 0, 2, 2), 1001)]
ORDERS = [(read_kind("1a1d1c 1b1a2c 1c0c0b 2d1b1b"), (3, 1, 0, 3, 1), 1000),
          (read_kind("0d3d4c2a1b 2c1a4e0b3f 4e1f0d2d3f 2f0e4c1f3c 4c0b3e1a2a 0d3e2e1b4b"), (3, 2, 2, 3), 1001)]


def like_kind(rng):
    """A drawn kind of which some sorts can often be exchanged."""
    settings, sorts = rng.randint(1, 4), rng.randint(1, 5)
    kind = drawn_kind(rng, settings, sorts)
    draw = rng.random()
    if draw < 0.4:
        # All turn the settings by numbers, going on alike in each of these.
        kind = tuple(tuple(((at + turn) % settings, behind) for at in range(settings))
                     for turn, behind in [(rng.randrange(settings), rng.randrange(sorts)) for _ in range(sorts)])
    elif draw < 0.7:
        kind = tuple(row if rng.random() < 0.5 else tuple((at, sort) for at in range(settings))
                     for sort, row in enumerate(kind))
    return spun_kind(rng, kind) if rng.random() < 0.3 else kind


def can_be(kind, one, two):
    return slow_alike(kind, (one, two), (two, one))


def slow_led(kind, train):
    """All orders to which exchanges of neighbours that can be exchanged lead, one after the other."""
    met = {train}
    todo = [train]
    while todo:
        order = todo.pop()
        for at in range(len(order) - 1):
            led = order[:at] + order[at:at + 2][::-1] + order[at + 2:]
            if can_be(kind, order[at], order[at + 1]) and led not in met:
                met.add(led)
                todo.append(led)
    return sorted(met)


class ExchangesTest(unittest.TestCase):

    def test_example(self):
        told(self, """
            >>> O = (((0, 0), (0, 0)), ((1, 1), (1, 1)))
            >>> [can_exchange(U, (0, 1), (0,)), can_exchange(O, (0,), (1,)), like_orders(U, (0, 1)), led_orders(O, (0, 1)), like_orders(O, (0, 1, 1)), exchange_lots(U), exchange_lots(O)]
            [True, False, [(0, 1), (1, 0)], [(0, 1)], [(0, 1, 1), (1, 0, 1)], [(0, 1)], [(0,), (1,)]]
            """, dict(U=U, can_exchange=can_exchange, like_orders=like_orders, led_orders=led_orders,
                      exchange_lots=exchange_lots))

    def test_can_exchange(self):
        rng = random.Random(78)
        found = {True: 0, False: 0}
        for _ in range(600):
            kind = like_kind(rng)
            train, other = drawn_train(rng, kind, 3), drawn_train(rng, kind, 3)
            if len(kind) ** len(train + other) > 1000:
                continue
            fit = slow_alike(kind, train + other, other + train)
            self.assertIs(can_exchange(kind, train, other), fit)
            if train and other and train != other:
                found[fit] += 1
            roads = [drawn_road(rng, kind, 6) for _ in range(10)]
            if fit:
                self.assertTrue(all(slow_left(kind, train + other, road) == slow_left(kind, other + train, road)
                                    for road in roads))
        self.assertGreater(min(found.values()), 40, found)

    def test_like_orders_beside_all_orders(self):
        rng = random.Random(79)
        sizes = set()
        for _ in range(250):
            kind = like_kind(rng)
            train = drawn_train(rng, kind, 4)
            orders = sorted(set(itertools.permutations(train)))
            if len(slow_lot_coming(kind, orders)) > 1000:
                continue
            wanted = [order for order in orders if slow_alike(kind, order, train)]
            self.assertEqual(like_orders(kind, train), wanted)
            sizes.add((len(wanted), len(orders)))
        self.assertTrue(any(1 < many < most for many, most in sizes), sizes)
        self.assertTrue(any(1 == many < most for many, most in sizes), sizes)
        self.assertTrue(any(2 < many == most for many, most in sizes), sizes)

    def test_led_orders_beside_all_exchanges(self):
        rng = random.Random(80)
        found = set()
        for _ in range(250):
            kind = like_kind(rng)
            train = drawn_train(rng, kind, 5)
            led = led_orders(kind, train)
            self.assertEqual(led, slow_led(kind, train))
            many = len(set(itertools.permutations(train)))
            found.add("none" if len(led) == 1 < many else "all" if len(led) == many > 1 else "some")
            # Each of them leaves all roads as the train does.
            for order in led[:4]:
                self.assertTrue(slow_alike(kind, order, train))
        self.assertEqual(found, {"none", "some", "all"})

    def test_led_orders_are_fewer_than_like_ones(self):
        # Walkers that are not neighbours may be in like orders by none of the steps between.
        self.assertEqual([led_orders(O, (0, 1, 1)), like_orders(O, (0, 1, 1))], [[(0, 1, 1)], [(0, 1, 1), (1, 0, 1)]])
        self.assertEqual([led_orders(O, (1, 0, 0, 1)), like_orders(O, (1, 0, 0, 1))],
                         [[(1, 0, 0, 1)], [(0, 0, 1, 1), (0, 1, 0, 1), (1, 0, 0, 1)]])

    def test_exchange_lots(self):
        rng = random.Random(81)
        sizes = set()
        for _ in range(300):
            kind = like_kind(rng)
            sorts = range(len(kind))
            lots = [lot for many in range(1, len(kind) + 1) for lot in itertools.combinations(sorts, many)
                    if all(can_be(kind, one, two) for one, two in itertools.combinations(lot, 2))]
            whole = [lot for lot in lots if not any(set(lot) < set(other) for other in lots)]
            self.assertEqual(exchange_lots(kind), sorted(whole))
            sizes.add(tuple(sorted(len(lot) for lot in whole)))
            # [3]: in each order of a train of such sorts all roads are left alike.
            for lot in whole:
                train = tuple(rng.choice(lot) for _ in range(4))
                other = tuple(rng.sample(train, 4))
                self.assertTrue(slow_alike(kind, train, other))
        self.assertGreater(len(sizes), 10)
        self.assertTrue({(1, 2), (2, 2), (1,), (2,), (3,)} <= sizes, sizes)

    def test_no_walkers_one_setting_six_of_each(self):
        self.assertEqual([can_exchange(O, (), (0, 1)), can_exchange(O, (1,), ()), can_exchange(O, (), ())], [True] * 3)
        self.assertEqual([like_orders(O, ()), led_orders(O, ())], [[()], [()]])
        self.assertEqual([can_exchange(U, (0, 1) * 3, (1, 1, 1, 0, 0, 0)), like_orders(U, (0,) * 6)],
                         [True, [(0,) * 6]])
        self.assertEqual(len(like_orders(U, (0, 1) * 3)), 20)
        self.assertEqual(len(led_orders(U, (0, 1) * 3)), 20)
        one = tuple(((0, (sort + 1) % 6),) for sort in range(6))
        self.assertEqual([exchange_lots(one), can_exchange(one, (0,), (5, 4))], [[(0, 1, 2, 3, 4, 5)], True])
        self.assertEqual(len(like_orders(one, (0, 1, 2, 3, 4, 5))), 720)
        self.assertEqual(led_orders(one, (0, 1, 2, 3, 4, 5)), sorted(itertools.permutations(range(6))))
        self.assertEqual(exchange_lots((((0, 0),),)), [(0,)])
        rng = random.Random(82)
        six = mixed_kind(rng, 6, 6)
        lots = exchange_lots(six)
        for one, two in itertools.combinations(range(6), 2):
            self.assertIs(any(one in lot and two in lot for lot in lots), can_be(six, one, two))
        self.assertEqual(sorted({sort for lot in lots for sort in lot}), list(range(6)))
        for train, other in itertools.product(all_rows(6, 1), repeat=2):
            self.assertIs(can_exchange(six, train, other), can_be(six, train[0], other[0]))

    def test_limit_of_walkers(self):
        for kind, train in (FEW_1001, STILL_1001, (U, (0, 1))):
            for long in ((0,) * 7, (1,) * 60):
                # It is ahead of that with 1000.
                self.assertEqual(raised(lambda: can_exchange(kind, long, train)), "TooMany(6)")
                self.assertEqual(raised(lambda: can_exchange(kind, train, long)), "TooMany(6)")
                self.assertEqual(raised(lambda: can_exchange(kind, long, (6,))), "InvalidTrain")
                self.assertEqual(raised(lambda: like_orders(kind, long)), "TooMany(6)")
                self.assertEqual(raised(lambda: led_orders(kind, long)), "TooMany(6)")
        self.assertEqual(raised(lambda: like_orders(U, (0,) * 61)), "InvalidTrain")

    def test_limit_of_trains(self):
        for kind, train, other, many in BOTH:
            self.assertEqual(len(slow_lot_coming(kind, {train + other, other + train})), many)
            outcome = raised(lambda: can_exchange(kind, train, other))
            self.assertIs(outcome == "TooMany(1000)", many > 1000)
            if many <= 1000:
                self.assertIs(can_exchange(kind, train, other), slow_alike(kind, train + other, other + train))
        for kind, train, many in ORDERS:
            self.assertEqual(len(slow_lot_coming(kind, set(itertools.permutations(train)))), many)
            outcome = raised(lambda: like_orders(kind, train))
            self.assertIs(outcome == "TooMany(1000)", many > 1000)
            if many <= 1000:
                self.assertEqual(like_orders(kind, train), sorted(
                    order for order in set(itertools.permutations(train)) if slow_alike(kind, order, train)))
        # With the train without walkers it is the one that is compared.
        for kind, train in (FEW_1001, STILL_1001):
            self.assertEqual(raised(lambda: can_exchange(kind, train, ())), "TooMany(1000)")
            self.assertEqual(raised(lambda: can_exchange(kind, (), train)), "TooMany(1000)")
            self.assertEqual(raised(lambda: like_orders(kind, train)), "TooMany(1000)")
            # Only two sorts are compared here, however many trains come of the train.
            self.assertEqual(led_orders(kind, train), slow_led(kind, train))
        for kind, train in (FEW_1000, STILL_1000):
            self.assertIs(can_exchange(kind, train, ()), True)

    def test_lists_are_new(self):
        check_new_list(self, like_orders, U, (0, 1))
        check_new_list(self, led_orders, U, (0, 1))
        check_new_list(self, exchange_lots, U)

    def test_wrong_arguments(self):
        check_wrong(self, can_exchange, (U, (0, 1), (1,)), [wrong("kind"), wrong("train"), wrong("train")])
        for function in (like_orders, led_orders):
            check_wrong(self, function, (U, (0, 1)), [wrong("kind"), wrong("train")])
        check_wrong(self, exchange_lots, (U,), [wrong("kind")])
