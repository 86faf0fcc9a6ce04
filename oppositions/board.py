"""The interface: a line of calls on one case, and their answers."""

from oppositions.changes import answer_change
from oppositions.dispute import Dispute
from oppositions.questions import answer_question
from oppositions.refusals import NOT_AS_TOLD
from oppositions.shapes import is_as_told, split_calls

LAST_CHANGE = 8


def answer_call(dispute, call):
    if not is_as_told(call):
        return [NOT_AS_TOLD]
    if call.number <= LAST_CHANGE:
        return answer_change(dispute, call)
    return answer_question(dispute, call)


def answers(calls):
    dispute = Dispute()
    told = []
    for call in split_calls(calls):
        answer = answer_call(dispute, call)
        told.append(len(answer))
        told.extend(answer)
    return told
