"""The calls that only ask of the case: 9 to 19. Their numbers are as told when they come here."""

from oppositions.counting import is_proof
from oppositions.dispute import DECIDED, NO_CASE, OPPOSED
from oppositions.fewest import fewest_facts
from oppositions.refusals import NOT_NOW, NOT_THERE


# Answers are whole numbers: what is true or false is told as 1 or 0.
def as_number(truth):
    return 1 if truth else 0


def alive(dispute, call):
    if dispute.phase == NO_CASE:
        return [NOT_NOW]
    return [dispute.standing()]


def counted_as_asked(dispute, call):
    return dispute.counted[call.arguments[0]]


def tell_fact(dispute, call):
    counted = counted_as_asked(dispute, call)
    fact = call.arguments[1]
    return [as_number(counted.is_proven(fact)), counted.support[fact]]


def tell_why(dispute, call):
    attacks = counted_as_asked(dispute, call).proven_attacks()
    if len(attacks) == 0:
        return [0]
    return [1, attacks[0].number]


def tell_fewest(dispute, call):
    facts = fewest_facts(counted_as_asked(dispute, call).proven_attacks())
    return [len(facts)] + facts


def tell_let_in(dispute, call):
    numbers = [piece.number for piece in counted_as_asked(dispute, call).pieces]
    return [len(dispute.pieces)] + [as_number(piece.number in numbers) for piece in dispute.pieces]


ABOUT_CLAIM = {
    10: tell_fact,
    11: tell_why,
    12: tell_fewest,
    14: tell_let_in,
}


# What is asked of one claim is refused alike, whatever it is.
def about_claim(dispute, call):
    if dispute.phase == NO_CASE:
        return [NOT_NOW]
    if call.arguments[0] >= dispute.claims:
        return [NOT_THERE]
    return ABOUT_CLAIM[call.number](dispute, call)


def without(dispute, call):
    number = call.arguments[0]
    if dispute.phase == NO_CASE:
        return [NOT_NOW]
    if number >= len(dispute.pieces):
        return [NOT_THERE]
    return [dispute.standing_without(number)]


def facts_and_weights(piece):
    row = []
    for fact, weight in zip(piece.facts, piece.weights):
        row.extend([fact, weight])
    return row


def tell_piece(dispute, call):
    number = call.arguments[0]
    if number >= len(dispute.pieces):
        return [NOT_THERE]
    piece = dispute.pieces[number]
    ahead = [piece.bringer, as_number(piece.late), as_number(is_proof(piece))]
    if is_proof(piece):
        return ahead + facts_and_weights(piece)
    return ahead + [piece.claim] + piece.facts


def tell_requests(dispute, call):
    return [len(dispute.requests)] + dispute.requests


def tell_appeals(dispute, call):
    told = [len(dispute.appeals)]
    for party, named in dispute.appeals:
        told.extend([party, named])
    return told


def status(dispute, call):
    ahead = [dispute.phase, dispute.day, dispute.claims, dispute.limit]
    return ahead + [dispute.kept, dispute.kept_request, dispute.decision_day, dispute.outcome]


def would(dispute, call):
    if dispute.phase == OPPOSED:
        return list(dispute.granted())
    if dispute.phase == DECIDED:
        return [dispute.outcome_now()]
    return [NOT_NOW]


QUESTIONS = {
    9: alive,
    10: about_claim,
    11: about_claim,
    12: about_claim,
    13: without,
    14: about_claim,
    15: tell_piece,
    16: tell_requests,
    17: tell_appeals,
    18: status,
    19: would,
}


def answer_question(dispute, call):
    return QUESTIONS[call.number](dispute, call)
