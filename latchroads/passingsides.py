"""The sides of a passing, and which two of them tell the others."""

from latchroads.errors import InvalidSides
from latchroads.kinds import check_kind

SIDES = (("out", "behind"), ("in", "behind"), ("ahead", "out"))


def check_sides(sides):
    """Raises InvalidSides for what is no two sides."""
    if sides not in SIDES:
        raise InvalidSides("this is no two sides of a passing")


def passings_of(kind):
    """The list of what stands at all sides of each passing of one walker through one latch, ascending by what comes."""
    return [{"in": sort, "ahead": setting, "out": behind, "behind": left}
            for sort, row in enumerate(kind) for setting, (left, behind) in enumerate(row)]


def first_clash(kind, sides):
    """What sides_clash returns, for arguments that are checked."""
    firsts = {}
    clashes = []
    for passing in passings_of(kind):
        both = (passing[sides[0]], passing[sides[1]])
        place = (passing["in"], passing["ahead"])
        if both in firsts:
            clashes.append((firsts[both], place))
        else:
            firsts[both] = place
    return min(clashes) if clashes else None


def sides_tell(kind, sides):
    """Whether two sides have no clash."""
    check_kind(kind)
    check_sides(sides)
    return first_clash(kind, sides) is None


def sides_clash(kind, sides):
    """The first clash of two sides in Python's order, or None."""
    check_kind(kind)
    check_sides(sides)
    return first_clash(kind, sides)


def kind_back(kind, sides):
    """The kind that goes back by two sides without a clash, or None."""
    check_kind(kind)
    check_sides(sides)
    if first_clash(kind, sides) is not None:
        return None
    # A walker is known by the side of the two that is a sort, a latch by the one that is a setting.
    walker, other_walker = ("in", "out") if "in" in sides else ("out", "in")
    latch, other_latch = ("ahead", "behind") if "ahead" in sides else ("behind", "ahead")
    rows = [[None] * len(kind[0]) for _ in kind]
    for passing in passings_of(kind):
        rows[passing[walker]][passing[latch]] = (passing[other_latch], passing[other_walker])
    return tuple([tuple(row) for row in rows])
