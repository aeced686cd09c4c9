"""What the tests have in common: drawn values, slow readings, examples, wrong values."""

import functools
import itertools
import random

from latchroads import errors
from latchroads.kindtexts import read_kind

U = (((1, 1), (0, 0)), ((0, 1), (1, 1)))

# Of this kind's train 1000 trains come, of the other one's 1001.
KIND_1000 = (((0, 4), (1, 3)), ((1, 1), (1, 2)), ((1, 1), (0, 3)),
             ((1, 1), (0, 1)), ((0, 1), (0, 4)), ((1, 4), (0, 3)))
TRAIN_1000 = (4, 4, 1, 2, 0, 0, 5, 2, 0, 3, 1, 4)
KIND_1001 = (((2, 3), (1, 1), (2, 2)), ((2, 0), (0, 0), (1, 1)),
             ((2, 2), (2, 0), (0, 3)), ((0, 3), (0, 3), (1, 2)))
TRAIN_1001 = (3, 0, 0, 3, 0, 2)
# Of this kind's train 200 trains come, of the other one's 201.
KIND_200 = read_kind("0b1c3a2a 1b0a3c2a 3a0c2b1a")
TRAIN_200 = (2, 2, 1, 0, 2)
KIND_201 = read_kind("0c2c0a 0d0a1d 0e1c1a 1c0b1b 2a0a2c")
TRAIN_201 = (2, 2, 4, 2, 4)
# Of these trains of few walkers 1000, and 1001, trains come; of the last two the kinds leave each latch as it is.
FEW_1000 = read_kind("0b0c 1c0d 1a1a 0c0c"), (3, 3, 2, 2, 1, 0)
FEW_1001 = (read_kind("4e2c0b3e1c 4d2f0c3e1d 4c1d2c3f0e 4f1b3f0c2a 2f3c4b1e0f 4a3f2d0f1d"), (5, 2, 5, 4))
STILL_1000 = (read_kind("0c1b2b3a4e 0f1b2f3b4b 0a1d2c3d4b 0d1c2d3b4d 0b1e2c3a4f 0e1f2f3b4a"), (2, 0, 4, 0, 3, 3))
STILL_1001 = (read_kind("0b1e2c3c4c5f 0e1b2b3a4c5a 0b1f2d3a4a5e 0e1a2f3f4e5b 0a1e2b3e4a5a 0a1c2c3a4a5f"),
              (1, 0, 4, 1, 5, 3))
Z = (((0, 0), (1, 1)), ((0, 0), (0, 0)))
X = (((0, 0), (1, 1)), ((0, 1), (1, 0)))
D = (((0, 0), (0, 1)), ((1, 0), (1, 1)))
Y = (U, (1, 0), (("send", (0, 0)), ("set", 0, 1), ("join", 0), ("send", (0,))))


def drawn_kind(rng, settings=None, sorts=None):
    settings = settings or rng.randint(1, 6)
    sorts = sorts or rng.randint(1, 6)
    return tuple(tuple((rng.randrange(settings), rng.randrange(sorts)) for _ in range(settings))
                 for _ in range(sorts))


def drawn_train(rng, kind, most):
    return tuple(rng.randrange(len(kind)) for _ in range(rng.randint(0, most)))


def drawn_road(rng, kind, most):
    return tuple(rng.randrange(len(kind[0])) for _ in range(rng.randint(0, most)))


def all_rows(below, many):
    """All tuples of so many integers from 0 on below a number, ascending."""
    return list(itertools.product(range(below), repeat=many))


def rows_up_to(below, most):
    """All tuples of at most so many integers, the lesser ones (as roads, and as trains) first."""
    return [row for many in range(most + 1) for row in all_rows(below, many)]


def slow_walker(kind, sort, road):
    """One walker, latch by latch: the road left, and the sort as which it comes out."""
    if not road:
        return (), sort
    left, behind = kind[sort][road[0]]
    rest, out = slow_walker(kind, behind, road[1:])
    return (left,) + rest, out


def slow_passed(kind, train, road):
    """Walker by walker, each through all latches as the one ahead left them."""
    out = ()
    for sort in train:
        road, behind = slow_walker(kind, sort, road)
        out += (behind,)
    return road, out


def slow_coming(kind, train):
    """All trains as which a train comes out of roads, tried latch by latch until none is new."""
    met = [train]
    for first in met:
        for setting in range(len(kind[0])):
            out = slow_passed(kind, first, (setting,))[1]
            if out not in met:
                met.append(out)
    return met


def slow_left(kind, train, road):
    """The road as a train leaves it."""
    return slow_passed(kind, train, road)[0]


def left_alike(kind, train, beside, other, roads):
    """Whether two trains leave each of some roads alike."""
    return all(slow_left(kind, train, road) == slow_left(beside, other, road) for road in roads)


def slow_pairs(kind, train, beside, other):
    """All pairs that come of a pair, tried latch by latch until none is new."""
    met = [(train, other)]
    for first, second in met:
        for setting in range(len(kind[0])):
            out = (slow_passed(kind, first, (setting,))[1], slow_passed(beside, second, (setting,))[1])
            if out not in met:
                met.append(out)
    return met


def drawn_pair(rng, most_pairs, most_settings=2, most_walkers=3):
    """Two drawn kinds, often one and the same, and trains of them of whose pair few pairs come."""
    while True:
        kind = drawn_kind(rng, rng.randint(1, most_settings), rng.randint(1, 3))
        beside = kind if rng.random() < 0.5 else drawn_kind(rng, len(kind[0]), rng.randint(1, 3))
        train, other = drawn_train(rng, kind, most_walkers), drawn_train(rng, beside, most_walkers)
        if len(slow_pairs(kind, train, beside, other)) <= most_pairs:
            return kind, train, beside, other


def spun_kind(rng, kind):
    """A kind that does the same as a drawn one: sorts stand there again, and all are named anew."""
    rows = [list(row) for row in kind]
    again = list(range(len(kind)))
    while len(rows) < 6 and rng.random() < 0.7:
        again.append(rng.randrange(len(kind)))
        rows.append(list(kind[again[-1]]))
    like = {sort: [at for at, first in enumerate(again) if first == sort] for sort in range(len(kind))}
    rows = [[(left, rng.choice(like[behind])) for left, behind in row] for row in rows]
    order = list(range(len(rows)))
    rng.shuffle(order)
    named = [None] * len(rows)
    for sort, row in enumerate(rows):
        named[order[sort]] = tuple((left, order[behind]) for left, behind in row)
    return tuple(named)


def turned_by_hand(kind):
    turned = {}
    for sort, row in enumerate(kind):
        for setting, (left, behind) in enumerate(row):
            turned[setting, sort] = (behind, left)
    return tuple(tuple(turned[setting, sort] for sort in range(len(kind))) for setting in range(len(kind[0])))


def doubled_kind(rng, kind):
    """A kind of which some sorts, and some settings, are alike to others."""
    kind = turned_by_hand(spun_kind(rng, turned_by_hand(kind))) if rng.random() < 0.6 else kind
    return spun_kind(rng, kind) if rng.random() < 0.6 else kind


def drawn_lot(rng, settings, sorts, walkers, most):
    """A drawn kind, and a lot of at most so many of its trains, some of which are often alike."""
    kind = mixed_kind(rng, settings, sorts)
    if rng.random() < 0.5:
        kind = spun_kind(rng, kind)
    lot = []
    for _ in range(rng.randint(1, most)):
        train = drawn_train(rng, kind, walkers)
        if train not in lot:
            lot.append(train)
    return kind, tuple(lot)


@functools.lru_cache(None)
def slow_alike(kind, train, other):
    """Whether two trains are alike: no pair that comes of theirs leaves a latch unlike."""
    met = {(train, other)}
    todo = [(train, other)]
    while todo:
        one, two = todo.pop()
        for setting in range(len(kind[0])):
            (left, out), (other_left, other_out) = (slow_passed(kind, first, (setting,)) for first in (one, two))
            if left != other_left:
                return False
            if (out, other_out) not in met:
                met.add((out, other_out))
                todo.append((out, other_out))
    return True


def slow_lot_coming(kind, trains):
    """All trains that come of some trains, in all."""
    return {out for train in trains for out in slow_coming(kind, train)}


def drawn_deed(rng, kind, latches):
    """A deed that can be done when there are so many latches."""
    words = ["send", "send"] + ["set", "cut"] * (latches > 0) + ["join", "join"] * (latches < 12)
    word = rng.choice(words)
    if word == "send":
        return (word, drawn_train(rng, kind, rng.choice((2, 6))))
    if word == "set":
        return (word, rng.randrange(latches), rng.randrange(len(kind[0])))
    return (word, rng.randrange(len(kind[0]))) if word == "join" else (word,)


def drawn_log(rng, most, least=0):
    """A drawn log of so many deeds."""
    kind = drawn_kind(rng, rng.randint(1, 4), rng.randint(1, 4))
    road = drawn_road(rng, kind, rng.choice((2, 5, 12)))
    deeds = []
    latches = len(road)
    for _ in range(rng.randint(least, most)):
        deeds.append(drawn_deed(rng, kind, latches))
        latches += {"join": 1, "cut": -1}.get(deeds[-1][0], 0)
    return kind, road, tuple(deeds)


def slow_log_roads(log):
    """The roads of a log, deed by deed and walker by walker."""
    kind, road, deeds = log
    roads = [road]
    for word, *more in deeds:
        road = list(roads[-1])
        if word == "send":
            road = slow_left(kind, more[0], tuple(road))
        elif word == "set":
            road[more[0]] = more[1]
        elif word == "join":
            road.append(more[0])
        else:
            del road[-1]
        roads.append(tuple(road))
    return roads


def drawn_endless(rng, kind):
    """A drawn endless road, of which often a part of the ring, or of the head, comes again."""
    ring = tuple(rng.randrange(len(kind[0])) for _ in range(rng.randint(1, 6)))
    ring = ring * rng.randint(1, 12 // len(ring))
    head = tuple(rng.randrange(len(kind[0])) for _ in range(rng.randint(0, 12)))
    if rng.random() < 0.4:
        head = (head[:rng.randint(0, 4)] + ring)[:12]
    return head, ring


def written_out(endless, latches):
    """The first settings, so many, of an endless road."""
    head, ring = endless
    return (head + ring * (latches // len(ring) + 1))[:latches]


def slow_shortest(endless):
    """The shortest pair: the shortest head with which some ring has all settings that follow, and its shortest ring."""
    latches = 4 * (len(endless[0]) + len(endless[1]))
    whole = written_out(endless, latches)
    for head in range(len(endless[0]) + 1):
        for ring in range(1, len(endless[1]) + 1):
            if written_out((whole[:head], whole[head:head + ring]), latches) == whole:
                return whole[:head], whole[head:head + ring]
    raise AssertionError(endless)


def slow_left_long(kind, train, endless, latches):
    """The first settings, so many, of an endless road as a train leaves it, walker by walker, latch by latch."""
    road = list(written_out(endless, latches))
    for sort in train:
        for at, setting in enumerate(road):
            road[at], sort = kind[sort][setting]
    return tuple(road)


def turning_kind(rng, settings, sorts):
    """A drawn kind of which all sorts turn."""
    return tuple(tuple(((setting + turn) % settings, rng.randrange(sorts)) for setting in range(settings))
                 for turn in (rng.randrange(settings) for _ in range(sorts)))


def one_to_one_kind(rng, settings, sorts):
    """A drawn kind of which no sort leaves two settings in one."""
    return tuple(tuple((left, rng.randrange(sorts)) for left in rng.sample(range(settings), settings))
                 for _ in range(sorts))


def mixed_kind(rng, settings, sorts, losing=0.3):
    """A drawn kind of which some sorts leave two settings in one."""
    rows = zip(drawn_kind(rng, settings, sorts), one_to_one_kind(rng, settings, sorts))
    return tuple(row if rng.random() < losing else other for row, other in rows)


def ending_kind(rng, settings, sorts):
    """A drawn kind whose sorts go on as later ones, and the last of which changes nothing."""
    rows = [tuple((rng.randrange(settings), rng.randint(sort + 1, sorts - 1)) for _ in range(settings))
            for sort in range(sorts - 1)]
    return (*rows, tuple((setting, sorts - 1) for setting in range(settings)))


def roads_left(kind, train, latches):
    """The pairs of all roads of so many latches and of the roads as which a train leaves them."""
    return [(road, slow_left(kind, train, road)) for road in all_rows(len(kind[0]), latches)]


def slow_changes(road, left):
    """The indices of the latches that are left in another setting."""
    return [at for at in range(len(road)) if road[at] != left[at]]


def slow_web(kind, train):
    """The web of a train by the words of [21]."""
    coming = slow_coming(kind, train)
    web = []
    for first in coming:
        passings = [slow_passed(kind, first, (setting,)) for setting in range(len(kind[0]))]
        web.append(tuple((coming.index(out), int(left != (setting,)))
                         for setting, (left, out) in enumerate(passings)))
    return tuple(web)


def slow_rings(steps):
    """All rings of a web, told by its steps {(index, setting): index}, each begun at its least index."""
    rings = []
    todo = [((place,), to) for place, to in steps.items()]
    while todo:
        way, at = todo.pop()
        if at == way[0][0]:
            rings.append(way)
        elif at > way[0][0] and all(at != index for index, _ in way):
            todo += [(way + (place,), to) for place, to in steps.items() if place[0] == at]
    return rings


def slow_sorts(kind, train):
    """The ascending list of the sorts that come of a train's walkers, each by itself."""
    return sorted({come[0] for sort in train for come in slow_coming(kind, (sort,))})


def slow_counts(kind, train, depth):
    """The counts of a train at a depth, reckoned depth by depth by the words of [16]."""
    settings, sorts = range(len(kind[0])), range(len(kind))
    counts = [sum(1 for walker in train if walker == sort) % len(settings) for sort in sorts]
    for _ in range(depth):
        counts = [sum(counts[s] * sum(1 for setting in settings if kind[s][setting][1] == r) for s in sorts)
                  % len(settings) for r in sorts]
    return tuple(counts)


def slow_sum(kind, train, depth):
    """The sum of a turning train at a depth; the number by which a sort turns is tried out."""
    many = len(kind[0])
    counts = slow_counts(kind, train, depth)
    total = 0
    for sort in slow_sorts(kind, train):
        turn, = [by for by in range(many) if all(kind[sort][at][0] == (at + by) % many for at in range(many))]
        total += counts[sort] * turn
    return total % many


def in_common(number, settings):
    """Whether a number has a divisor in common with that of the settings, other than 1."""
    return any(number % divisor == 0 and settings % divisor == 0 for divisor in range(2, settings + 1))


def slow_short(kind, train):
    """The least depth whose sum has a divisor in common; counts come again within as many depths as there are."""
    most = len(kind[0]) ** len(slow_sorts(kind, train))
    return next((depth for depth in range(most) if in_common(slow_sum(kind, train, depth), len(kind[0]))), None)


def slow_rounds(kind, train, latches):
    """How many standings each round of roads of so many latches has, ascending; roads out of rounds are left out."""
    many = []
    seen = set()
    for road in all_rows(len(kind[0]), latches):
        standings = [road]
        while slow_left(kind, train, standings[-1]) not in standings:
            standings.append(slow_left(kind, train, standings[-1]))
        if slow_left(kind, train, standings[-1]) == road and road not in seen:
            seen.update(standings)
            many.append(len(standings))
    return sorted(many)


def told(test, lines, names=None):
    """Runs examples as they stand in the document, and compares what is printed."""
    space = dict(names or {})
    rows = [line.strip() for line in lines.strip().splitlines()]
    while rows:
        row = rows.pop(0)
        test.assertTrue(row.startswith(">>> "), row)
        source = row[4:]
        if not rows or rows[0].startswith(">>> "):
            exec(source, space)
            continue
        wanted = rows.pop(0)
        if wanted.startswith("raises "):
            test.assertEqual(raised(lambda: eval(source, space)), wanted[7:])
        else:
            test.assertEqual(repr(eval(source, space)), wanted, source)


def raised(action):
    """The name of the error that an action raises, with what it was made with."""
    try:
        value = action()
    except errors.LatchError as error:
        if isinstance(error, errors.TooMany):
            return "TooMany(%r)" % error.limit
        if isinstance(error, errors.InvalidText):
            return "InvalidText(%r)" % error.at
        return type(error).__name__
    return "no error, but %r" % (value,)


def nested(value, deep, around):
    for _ in range(deep):
        value = around([value])
    return value


BIG = 10 ** 119
SPOILT = [True, False, None, BIG, -BIG, -1, 7, 1001, "", "0", "a|b\n", "0a" * 2000, [], [0], [[0, 0]],
          (True,), (None,), ("0",), (-1,), (BIG,), (0, False), ([0],), ((),), ((), ()), (((),),), [()],
          nested(0, 100, tuple), nested((), 99, tuple), nested(0, 100, list), (None,) * 1000, ["a"] * 1000,
          (0,) * 61, (0,) * 1000, errors.LatchError("no"), errors.TooMany(6), errors.InvalidText(0)]

KIND_LIKES = [0, 1, (), (0,), ((0, 0),), list(U), (list(U[0]), U[1]), (U[0], [list(pair) for pair in U[1]]),
              U[:1], (U[0], U[1][:1]), (U[0][:1], U[1]), U + ((),), ((), ()), (U[0], 0), (0, U[1]), ("", ""),
              (((1, 1), (0, 0)), ((0, 1), (2, 1))), (((1, 1), (0, 0)), ((0, 1), (1, 2))),
              (((1, 1), (0, 0)), ((0, -1), (1, 1))), (((1, 1), (0, 0)), ((-1, 1), (1, 1))),
              (((1, True), (0, 0)), ((0, 1), (1, 1))), (((True, 1), (0, 0)), ((0, 1), (1, 1))),
              (((1, 1), (0, 0)), ((0, 1), (1, 1, 1))), (((1, 1), (0, 0)), ((0, 1), (1,))),
              (((1, 1), (0, 0)), ((0, 1), "11")), (((1, 1), (0, 0)), ((0, 1), (1, "1"))),
              (((0, 0),),) * 7, (((0, 0),) * 7,), (((0, 0),) * 6,) * 6 + (((0, 0),) * 7,),
              (((1, 1), (0, 0)), ((0, 1), (1, BIG))), (((1, 1), (0, None)), ((0, 1), (1, 1)))]

ENDLESS_LIKES = [0, ((), ()), ((0,), ()), ((0,),), ((0,), (0,), (0,)), [(), (0,)], ((), [0]), ([], (0,)), ((2,), (0,)),
                 ((), (2,)), ((), (0, True)), ((False,), (0,)), ((0,) * 13, (0,)), ((), (0,) * 13), ((), (-1,)),
                 ((None,), (0,)), ((), "0"), ("", (0,)), (0, (0,)), ((0,), 0), (None, (0,)), ((), None), "00",
                 ((), (0, (0,))), ((0,) * 12, (0,) * 12, ()), (((),), (0,)), ((BIG,), (0,)), ((), (0, BIG))]

LOT_LIKES = [0, (), ((0,), (0,)), ((), ()), ((0,), (1,), (0,)), [(0,)], ([0],), ((2,),), ((0,), (2,)), ((0, True),),
             ((0,) * 7,), ((), (0,) * 7), ((0,), 1), ((0,), None), (0,), ((0,), "1"), ((-1,),), "01", ("01",),
             tuple((0,) * at for at in range(7)) + tuple((1,) * at for at in range(1, 7)), ((BIG,),), (((0,),),)]
TOLD_LIKES = [0, (), ((), ()), (((), (0,)),), (((0,), ()),), (((0,), (0, 0)),), (((0,) * 9, (0,) * 9),), (((0,),),),
              (((0,), (2,)),), (((2,), (0,)),), (((0,), (0,), (0,)),), (((0,), (0,)),) * 5, [((0,), (0,))],
              ([(0,), (0,)],), ((([0]), (0,)),), (((0,), [0]),), (((0,), (True,)),), (((False,), (0,)),),
              (((0,), (0,)), 0), (((0,), (0,)), None), (((0,), (-1,)),), ((0, 0),), "00", (("0", "0"),),
              (((0,), (BIG,)),), (((0,), (0,)), ((0,), ()))]
# Wrong logs; each but the first ones with one thing wrong in it.
LOG_LIKES = [0, (), (U,), (U, ()), (U, (), (), ()), [U, (), ()], (U, [], ()), (U, (), []), (list(U), (), ()),
             (None, (), ()), (U[:1], (), ()), (U, (2,), ()), (U, (True,), ()), (U, (0,) * 13, ()), (U, (0,), None),
             (U, (0,), "cut"), (U, (0,), ("cut",)), (U, (0,), (["cut"],)), (U, (0,), ((),)), (U, (0,), (None,)),
             (U, (0,), (("cut", 0),)), (U, (0,), (("cut",), ("cut",))), (U, (), (("cut",),)), (U, (0,), (("Cut",),)),
             (U, (0,), (("cut ",),)), (U, (0,), (("send",),)), (U, (0,), (("send", 0),)), (U, (0,), (("send", (2,)),)),
             (U, (0,), (("send", (0,) * 7),)), (U, (0,), (("send", [0]),)), (U, (0,), (("send", (True,)),)),
             (U, (0,), (("send", (0,), 0),)), (U, (0,), (("set", 0),)), (U, (0,), (("set", 1, 0),)),
             (U, (0,), (("set", -1, 0),)), (U, (0,), (("set", 0, 2),)), (U, (0,), (("set", 0, -1),)),
             (U, (0,), (("set", False, 0),)), (U, (0,), (("set", 0, True),)), (U, (0,), (("set", 0, 0, 0),)),
             (U, (0,), (("set", "0", 0),)), (U, (), (("set", 0, 0),)), (U, (0,), (("cut",), ("set", 0, 0))),
             (U, (0,), (("join",),)), (U, (0,), (("join", 2),)), (U, (0,), (("join", True),)),
             (U, (0,), (("join", (0,)),)), (U, (0,), (("join", 0, 0),)), (U, (0,) * 12, (("join", 0),)),
             (U, (0,) * 11, (("join", 0), ("join", 0))), (U, (0,), (("send", ()),) * 31), (U, (0,), (("put", 0, 0),)),
             (U, (0,), ((0, (0,)),)), (U, (0,), ((("send",), (0,)),)), (U, (0,), ((None,),)), (U, (0,), (("",),)),
             ((((1, 1), (0, 0)), ((0, 1), (1, True))), (0,), ()), ((((1, False), (0, 0)), ((0, 1), (1, 1))), (0,), ())]


def wrong(name, least=0, most=0):
    """The error that a wrong argument of some name raises (for U), and wrong values for it."""
    if name == "side":
        words = ["Most", "most ", "mos", "mostleast", ("most",), ["least"], "in", "out", "behind", "greatest"]
        return "InvalidSide", SPOILT + words + ["last", "alone"]
    if name == "count":
        words = ["Last", "last ", "lastalone", "a", ("last",), ["alone"], "all", "none", "nowhere"]
        return "InvalidSide", SPOILT + words + ["most", "least"]
    if name in ("kind", "beside"):
        return "InvalidKind", SPOILT + KIND_LIKES
    if name == "unlike":
        return "UnlikeSettings", [(((0, 0),),), (((0, 0),),) * 6, (((0, 0), (1, 0), (2, 0)),), (((5, 0),) * 6,)]
    if name == "order":
        return "InvalidOrder", SPOILT + [(0, 0), (1, 1), (0, 2), (1, 2), (0, 1, 2), (0,), (1,), [0, 1], (0, True), U]
    if name == "train":
        return "InvalidTrain", SPOILT + [0, 1, (2,), (0, 2), (0, 1, -1), [0, 1], "01", U, (0,) * 61, (1, True)]
    if name == "road":
        return "InvalidRoad", SPOILT + [0, 1, (2,), (0, 2), (0, 1, -1), [0, 1], "01", U, (1,) * 61, (1, True)]
    if name == "few walkers":
        return "InvalidTrain", wrong("train")[1] + [(0,) * 7, (0, 1) * 30]
    if name == "few latches":
        return "InvalidRoad", wrong("road")[1] + [(0,) * 9, (0, 1) * 30]
    if name == "sides":
        words = ["out", ("out",), ["out", "behind"], ("behind", "out"), ("out", "in"), ("in", "ahead"), ("in", "out"),
                 ("ahead", "behind"), ("out", "ahead"), ("in", "behind", "out"), ("In", "behind"), ("in", b"behind"),
                 (("in", "behind"),), ("in", "behind "), ("out", "out"), (0, "out"), "inbehind", ("i", "n")]
        return "InvalidSides", SPOILT + words
    if name == "endless":
        return "InvalidEndless", SPOILT + ENDLESS_LIKES
    if name == "lot":
        return "InvalidLot", [value for value in SPOILT if value != ((),)] + LOT_LIKES
    if name == "told":
        return "InvalidTold", SPOILT + TOLD_LIKES
    if name == "sorts":
        values = [0, 1, (1, 0), (0, 0), (2,), (0, 2), [0, 1], "01", (0, 1, 1), (-1, 0), (0, True), (False,), (0, 1, 2)]
        return "InvalidSorts", SPOILT + values
    if name == "log":
        return "InvalidLog", SPOILT + LOG_LIKES
    if name == "index":
        # The indices of as many latches as are told.
        return "InvalidIndex", [value for value in SPOILT if type(value) is not int] + [-1, most, most + 1, BIG, (), U]
    if name == "reckoning kind":
        ones = [(((0, 0),),), (((0, 1),), ((0, 0),)), (((0, 0),),) * 6]
        return "InvalidKind", wrong("kind")[1] + ones
    if name == "setting":
        return "InvalidSetting", SPOILT + [2, (), (0,), U]
    if name == "sort":
        return "InvalidSort", SPOILT + [2, (), (0,), U]
    if name == "number":
        values = [value for value in SPOILT if type(value) is not int]
        more = [least - 1, -BIG] if most is None else [least - 1, most + 1, BIG, -BIG]
        return "InvalidNumber", values + more + [(), U]
    raise AssertionError(name)


def check_wrong(test, function, right, wrongs):
    """Each argument wrong alone, and any two at once, of which the leftmost tells the error."""
    rng = random.Random(len(right))
    for at, (name, values) in enumerate(wrongs):
        for value in values:
            args = list(right)
            args[at] = value
            test.assertEqual(raised(lambda: function(*args)), name, (function, args))
            for behind in range(at + 1, len(wrongs)):
                args[behind] = rng.choice(wrongs[behind][1])
            test.assertEqual(raised(lambda: function(*args)), name, (function, args))


def check_wrong_pair(test, function, right, more=()):
    """As check_wrong, for a kind and its train, a kind beside it and its train, and more arguments."""
    for beside in ("beside", "unlike"):
        check_wrong(test, function, right, [wrong("kind"), wrong("train"), wrong(beside), wrong("train"), *more])


def check_new_list(test, function, *args):
    """The list that is returned is new: changing it changes nothing that comes later."""
    first = function(*args)
    test.assertIs(type(first), list)
    copy = list(first)
    first.clear()
    test.assertEqual(function(*args), copy)
