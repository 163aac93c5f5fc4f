"""How the tests write calls and read answers."""

from unitclasses.fund import answers

LEAST = -2 ** 63
MOST = 2 ** 63 - 1
MOST_VALUE = 10 ** 12
MOST_MONEY = 10 ** 9
MOST_ORDERED_UNITS = 10 ** 18
MOST_COUNT = 10 ** 24
MOST_RATE = 100000
MOST_DAYS = 366

BEGIN = (0,)


def open_(start):
    return (1, start)


def create(c, m):
    return (2, c, m)


def cancel(c, u):
    return (3, c, u)


def result(r):
    return (4, r)


def cost(c, m):
    return (5, c, m)


def gain(c, m):
    return (6, c, m)


def convert(c, d, u):
    return (7, c, d, u)


def join(c, d):
    return (8, c, d)


def split(c, k):
    return (9, c, k)


def fee(rate, days):
    return (10, rate, days)


VALUES = (11,)


def price(c):
    return (12, c)


def worth(c, u):
    return (13, c, u)


def class_(c):
    return (14, c)


FUND_STATE = (15,)


def wouldcreate(c, m):
    return (16, c, m)


def wouldcancel(c, u):
    return (17, c, u)


def dearer(c, d):
    return (18, c, d)


def owed(rate, days):
    return (19, rate, days)


def written(calls):
    return [number for call in calls for number in call]


def parted(numbers):
    """The answers one by one, from the list that holds a count ahead of each."""
    found = []
    at = 0
    while at < len(numbers):
        count = numbers[at]
        answer = numbers[at + 1:at + 1 + count]
        if count < 1 or len(answer) != count:
            raise AssertionError(f"not whole answers: {numbers}")
        found.append(answer)
        at += 1 + count
    return found


def ask(*calls):
    """What each call is answered."""
    found = parted(answers(written(calls)))
    if len(found) != len(calls):
        raise AssertionError(f"{len(calls)} calls, {len(found)} answers")
    return found


def last(calls, *more):
    """What the last call is answered."""
    return ask(*calls, *more)[-1]


def probes():
    """Short lines whose answers tell value, classes, units and shares, whatever was called before."""
    lines = [[FUND_STATE, VALUES] + [class_(c) for c in range(1, 7)], [owed(100000, 365)], [fee(100000, 365), VALUES],
             [result(0)], [result(-1)], [result(1), result(0)], [open_(1), open_(1), open_(1)],
             [open_(1), create(1, 5), result(0)]]
    for c in range(1, 7):
        lines.append([split(c, 2)])
        lines.append([cancel(c, 1), result(0)])
        lines.append([cancel(c, 10 ** 6)])
        lines.append([create(c, 1), create(c, 997)])
        lines.append([cost(c, 1)])
        lines.append([gain(c, 1), gain(c, 997)])
        for d in range(1, 7):
            lines.append([join(c, d), join(d, c)])
    return lines


def seen(calls):
    """All that later calls can tell of the fund after these calls."""
    return [ask(*calls, *line)[len(calls):] for line in probes()]
