"""The texts of kinds and of cases."""

from latchroads.checks import check_road, check_train
from latchroads.errors import InvalidText
from latchroads.kinds import LONGEST, MOST_SETTINGS, MOST_SORTS, check_kind

FIGURES = "012345"
LETTERS = "abcdef"
END = "|"


def row_text(row):
    """The text of the pairs of one sort."""
    return "".join([FIGURES[left] + LETTERS[behind] for left, behind in row])


def kind_text(kind):
    """The text of a kind."""
    check_kind(kind)
    return " ".join([row_text(row) for row in kind])


def case_text(kind, train, road):
    """The text of a case."""
    check_kind(kind)
    check_train(kind, train)
    check_road(kind, road)
    walkers = "".join([LETTERS[sort] for sort in train])
    latches = "".join([FIGURES[setting] for setting in road])
    return kind_text(kind) + END + walkers + END + latches


def check_text(text):
    """Raises InvalidText for what is no string."""
    if not isinstance(text, str):
        raise InvalidText(0)


def sign_at(text, at, signs):
    """The sign at an index, which must be one of the signs that may stand there."""
    if at == len(text) or text[at] not in signs:
        raise InvalidText(at)
    return text[at]


def is_whole(rows):
    """Whether the last row can end here, so that some kind begins with the rows."""
    row = rows[-1]
    if len(rows) > 1:
        return len(row) == len(rows[0])
    return 0 < len(row) and all([left < len(row) for left, _ in row])


def has_all_sorts(rows):
    """Whether each sort that the rows name has a row."""
    return all([behind < len(rows) for row in rows for _, behind in row])


def signs_behind(rows):
    """The signs that may stand behind the text of the rows."""
    many = MOST_SETTINGS if len(rows) == 1 else len(rows[0])
    signs = FIGURES[:many] if len(rows[-1]) < many else ""
    if is_whole(rows) and len(rows) < MOST_SORTS:
        signs = signs + " "
    if is_whole(rows) and has_all_sorts(rows):
        signs = signs + END
    return signs


def kind_ahead(text):
    """The kind whose text stands ahead of the first end sign, and the index of this."""
    rows = [[]]
    at = 0
    sign = sign_at(text, at, signs_behind(rows))
    while sign != END:
        if sign == " ":
            rows.append([])
            at += 1
        else:
            letter = sign_at(text, at + 1, LETTERS)
            rows[-1].append((FIGURES.index(sign), LETTERS.index(letter)))
            at += 2
        sign = sign_at(text, at, signs_behind(rows))
    return tuple([tuple(row) for row in rows]), at


def row_ahead(text, at, signs):
    """What the signs from an index on tell, and the index of the end sign behind them."""
    row = []
    while sign_at(text, at, signs + END if len(row) < LONGEST else END) != END:
        row.append(signs.index(text[at]))
        at += 1
    return tuple(row), at


def check_end(text, at):
    """Raises InvalidText if what was read ends ahead of the text."""
    if at < len(text):
        raise InvalidText(at)


def read_kind(text):
    """The kind whose text a string is."""
    check_text(text)
    # The end of the text is read as an end sign, which may stand just there.
    kind, at = kind_ahead(text + END)
    check_end(text, at)
    return kind


def read_case(text):
    """The case, a triple (kind, train, road), whose text a string is."""
    check_text(text)
    kind, at = kind_ahead(text)
    train, at = row_ahead(text, at + 1, LETTERS[:len(kind)])
    road, at = row_ahead(text + END, at + 1, FIGURES[:len(kind[0])])
    check_end(text, at)
    return kind, train, road
