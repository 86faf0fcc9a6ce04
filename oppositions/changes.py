"""The calls that change the case: 0 to 8. Their numbers and rows are as told when they come here."""

from oppositions.dispute import DECIDED, NO_CASE, OPPOSED
from oppositions.refusals import FULL, NOT_NOW, NOT_THERE

MOST_PIECES = 24
MOST_REQUESTS = 6
MOST_APPEALS = 8
LAST_DAY = 10000


def begin_case(dispute, call):
    dispute.begin(call.arguments[0], call.arguments[1], call.arguments[2])
    return [0]


def bring_piece(dispute, bringer, claim, facts, weights):
    if not dispute.is_running():
        return [NOT_NOW]
    if len(dispute.pieces) == MOST_PIECES:
        return [FULL]
    dispute.bring(bringer, claim, facts, weights)
    return [len(dispute.pieces) - 1]


def attack(dispute, call):
    claim = call.arguments[1]
    if dispute.phase != NO_CASE and claim >= dispute.claims:
        return [NOT_THERE]
    return bring_piece(dispute, call.arguments[0], claim, call.row, [])


def prove(dispute, call):
    return bring_piece(dispute, call.arguments[0], None, call.row[0::2], call.row[1::2])


def request(dispute, call):
    named = call.arguments[0]
    if dispute.phase != OPPOSED:
        return [NOT_NOW]
    if not dispute.has_claims(named):
        return [NOT_THERE]
    if len(dispute.requests) == MOST_REQUESTS:
        return [FULL]
    dispute.requests.append(named)
    return [len(dispute.requests) - 1]


def tick(dispute, call):
    if dispute.phase == NO_CASE:
        return [NOT_NOW]
    if dispute.day + call.arguments[0] > LAST_DAY:
        return [FULL]
    dispute.day += call.arguments[0]
    return [dispute.day]


def decide(dispute, call):
    if dispute.phase != OPPOSED or not dispute.is_behind_limit():
        return [NOT_NOW]
    dispute.decide()
    return [dispute.kept, dispute.kept_request]


def appeal(dispute, call):
    party = call.arguments[0]
    named = call.arguments[1]
    if dispute.phase != DECIDED or dispute.is_behind_appeals():
        return [NOT_NOW]
    if not dispute.may_name(party, named):
        return [NOT_THERE]
    if len(dispute.appeals) == MOST_APPEALS:
        return [FULL]
    dispute.appeals.append((party, named))
    return [len(dispute.appeals) - 1]


def withdraw(dispute, call):
    if not dispute.is_running():
        return [NOT_NOW]
    before = len(dispute.appeals)
    dispute.appeals = [made for made in dispute.appeals if made[0] != call.arguments[0]]
    return [before - len(dispute.appeals)]


def close_case(dispute, call):
    if dispute.phase != DECIDED or not dispute.is_behind_appeals():
        return [NOT_NOW]
    dispute.fix_outcome()
    return [dispute.outcome]


CHANGES = {
    0: begin_case,
    1: attack,
    2: prove,
    3: request,
    4: tick,
    5: decide,
    6: appeal,
    7: withdraw,
    8: close_case,
}


def answer_change(dispute, call):
    return CHANGES[call.number](dispute, call)
