"""Roads that tell, or know, which train of a lot was sent."""

from latchroads.checks import check_number
from latchroads.comings import place_of, road_into
from latchroads.errors import TooMany
from latchroads.kindnumbers import power_of
from latchroads.kinds import LONGEST, all_rows, check_kind
from latchroads.sortlikes import lasting_marks
from latchroads.trainlots import check_lot, lot_web
from latchroads.walks import through_road

MOST_MINGLINGS = 900
MOST_ROADS = 64


def mingling_of(groups):
    """The mingling of a road, told by the groups of the trains as which those that leave it alike come out."""
    rows = [tuple(sorted(set(group))) for group in groups]
    return tuple(sorted({row for row in rows if len(row) > 1}))


def groups_by(web, mingling, setting):
    """The groups of a mingling behind one latch more, in a setting."""
    _, lefts, steps = web
    groups = []
    for row in mingling:
        behind = {}
        for at in row:
            behind.setdefault(lefts[at][setting], []).append(steps[at][setting])
        groups.extend(list(behind.values()))
    return groups


def none_as_one(groups):
    """Whether no two trains that leave a road alike come out of it as one."""
    return all([len(set(group)) == len(group) for group in groups])


def least_mingled(web, first, goes_on, fits):
    """The least road whose mingling fits, or None.

    A mingling is gone on from with just the settings whose groups, by
    `goes_on(groups)`, may still lead to one that fits.
    """
    minglings = [first]
    places = {first: 0}
    steps = []
    while len(steps) < len(minglings):
        at = len(steps)
        if fits(minglings[at]):
            return road_into(steps, at)
        if at == MOST_MINGLINGS:
            raise TooMany(MOST_MINGLINGS)
        row = [groups_by(web, minglings[at], setting) for setting in range(len(web[1][0]))]
        steps.append([place_of(minglings, places, mingling_of(groups)) if goes_on(groups) else at for groups in row])
    return None


def telling_road(kind, lot):
    """The least road that tells a lot, or None."""
    check_kind(kind)
    check_lot(kind, lot)
    web = lot_web(kind, lot)
    return least_mingled(web, mingling_of([list(range(len(lot)))]), none_as_one, lambda mingling: mingling == ())


def knowing_road(kind, lot):
    """The least road that knows a lot, or None."""
    check_kind(kind)
    check_lot(kind, lot)
    web = lot_web(kind, lot)
    marks, _ = lasting_marks(web[1], web[2])
    return least_mingled(web, mingling_of([list(range(len(lot)))]), lambda groups: True,
                         lambda mingling: all([len({marks[at] for at in row}) == 1 for row in mingling]))


def parted_by(kind, lot, road):
    """The number whose bits tell, for each two trains of a lot, whether they leave a road unlike."""
    lefts = []
    for train in lot:
        left, _ = through_road(kind, train, road)
        lefts.append(left)
    bits = 0
    bit = 1
    for two in range(len(lot)):
        for one in range(two):
            if lefts[one] != lefts[two]:
                bits += bit
            bit = 2 * bit
    return bits


def greatest_bits(numbers):
    """Those of some unlike numbers whose bits do not all stand in another one of them."""
    return [bits for bits in numbers if not any([bits & other == bits and bits != other for other in numbers])]


def fewest_with(numbers, missing, most):
    """The places of at most so many numbers that have all missing bits together, or None."""
    whole = [place for place, bits in enumerate(numbers) if bits & missing == missing]
    if missing == 0 or most == 0:
        return () if missing == 0 else None
    if most == 1 or whole:
        return tuple(whole[:1]) if whole else None
    # Some number must have the lowest bit; with each one that does not lead on, the others are tried without it.
    lowest = missing & -missing
    rest = list(numbers)
    for place, bits in enumerate(numbers):
        if bits & lowest:
            rest[place] = 0
            found = fewest_with(rest, missing & ~bits, most - 1)
            if found is not None:
                return (place, *found)
    return None


def fewest_places(numbers, missing):
    """The places of the fewest numbers that have all missing bits together, or None."""
    together = 0
    for bits in numbers:
        together = together | bits
    if together & missing != missing:
        return None
    most = 0
    found = fewest_with(numbers, missing, most)
    while found is None:
        most += 1
        found = fewest_with(numbers, missing, most)
    return found


def fewest_roads(kind, lot, number):
    """Any ascending tuple of the fewest roads of so many latches that part each two trains of a lot, or None."""
    check_kind(kind)
    check_lot(kind, lot)
    check_number(number, 0, LONGEST)
    lot_web(kind, lot)
    if power_of(len(kind[0]), number) > MOST_ROADS:
        raise TooMany(MOST_ROADS)
    roads = {}
    for road in all_rows(len(kind[0]), number):
        roads.setdefault(parted_by(kind, lot, road), road)
    numbers = greatest_bits(list(roads))
    missing = power_of(2, len(lot) * (len(lot) - 1) // 2) - 1
    found = fewest_places(numbers, missing)
    if found is None:
        return None
    return tuple(sorted([roads[numbers[place]] for place in found]))
