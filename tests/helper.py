"""What the tests share: calls by name, and a line's answers call by call."""

from oppositions.board import answers

LOWEST = -9223372036854775808
HIGHEST = 9223372036854775807


def case(n, bar, limit):
    return [0, n, bar, limit]


def attack(o, c, *facts):
    return [1, o, c, len(facts), *facts]


def proof(p, *weights):
    return [2, p, len(weights), *weights]


def request(m):
    return [3, m]


def tick(n):
    return [4, n]


def decide():
    return [5]


def appeal(p, m):
    return [6, p, m]


def withdraw(o):
    return [7, o]


def close():
    return [8]


def alive():
    return [9]


def fact(c, f):
    return [10, c, f]


def why(c):
    return [11, c]


def fewest(c):
    return [12, c]


def without(i):
    return [13, i]


def let_in(c):
    return [14, c]


def piece(i):
    return [15, i]


def requests():
    return [16]


def appeals():
    return [17]


def status():
    return [18]


def would():
    return [19]


def ask(*calls):
    """The answer of each call of one line, as a list each."""
    flat = [number for call in calls for number in call]
    told = answers(flat)
    split = []
    at = 0
    while at < len(told):
        split.append(told[at + 1:at + 1 + told[at]])
        at += 1 + told[at]
    assert len(split) == len(calls), (calls, told)
    return split


def last(*calls):
    """The answer of the line's last call."""
    return ask(*calls)[-1]


def days(n):
    """Ticks that make n days together: one tick takes at most 365."""
    return [tick(365)] * (n // 365) + ([tick(n % 365)] if n % 365 else [])


# A case with three claims, bar 2 and limit 5 in each phase; claim 1 is down, {0, 2} is kept by request 1.
PHASE_1 = [case(3, 2, 5), attack(0, 1, 4), proof(0, 4, 2), request(5)]
PHASE_2 = PHASE_1 + [tick(6), decide()]
PHASE_3 = PHASE_2 + [appeal(1, 4), tick(61), close()]
PHASES = ([], PHASE_1, PHASE_2, PHASE_3)

# All that can be asked without changing the case, of each claim and of some pieces and facts.
QUESTIONS = (
    [status(), requests(), appeals(), would(), alive()]
    + [call for c in range(6) for call in (let_in(c), why(c), fewest(c), fact(c, 0), fact(c, 4), fact(c, 7))]
    + [call for i in (0, 1, 2, 3, 4, 23) for call in (piece(i), without(i))]
)

# Calls that go on from any phase and whose answers show what the case holds.
PROBES = [
    *QUESTIONS, attack(2, 0, 0, 7), proof(3, 0, 1, 7, 1), alive(), request(4), withdraw(0), tick(1), decide(),
    alive(), appeal(0, 1), appeal(1, 4), appeal(2, 2), appeal(3, 2), proof(0, 0, 1, 7, 1), alive(), withdraw(1),
    appeal(0, 4), tick(30), close(), appeal(0, 1), tick(30), *QUESTIONS, appeal(0, 1), tick(1), close(), alive(),
    tick(9), decide(), appeal(0, 1), tick(40), close(), tick(30), close(), *QUESTIONS, tick(1),
]


def refused(test, number, before, call):
    """Asserts that the call is refused so, and that the rest of the line answers as without it."""
    with test.subTest(before=before, call=call):
        plain = ask(*before, *PROBES)
        tried = ask(*before, call, *PROBES)
        test.assertEqual([number], tried[len(before)])
        test.assertEqual(plain, tried[:len(before)] + tried[len(before) + 1:])


def taken(test, answer, before, call):
    """Asserts that the call answers so."""
    with test.subTest(before=before, call=call):
        test.assertEqual(answer, last(*before, call))
