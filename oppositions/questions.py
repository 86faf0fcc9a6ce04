"""The calls that only ask of the case: from 9 on. Their numbers are as told when they come here."""

from oppositions.dispute import NO_CASE
from oppositions.refusals import NOT_NOW


def alive(dispute, call):
    if dispute.phase == NO_CASE:
        return [NOT_NOW]
    return [dispute.standing()]


QUESTIONS = {
    9: alive,
}


def answer_question(dispute, call):
    number = call.number
    # Any number told here would pass for an answer of the case.
    if number not in QUESTIONS:
        raise NotImplementedError(f"call {number} is not built yet")
    return QUESTIONS[number](dispute, call)
