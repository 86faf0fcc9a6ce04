"""without: the claims that would stand now if a piece weren't there."""

import unittest

from tests.helper import (
    PHASE_1, PHASE_2, PHASE_3, PROBES, QUESTIONS, alive, appeal, ask, attack, case, close, decide, let_in, proof,
    request, taken, tick, without,
)


def without_each(*calls):
    """The answer of without for each piece of the line, by their numbers."""
    brought = [call for call in calls if call[0] in (1, 2)]
    told = ask(*calls, *[without(i) for i in range(len(brought))])
    return [number for answer in told[len(calls):] for number in answer]


class InTime(unittest.TestCase):
    def test_an_attack_and_its_proof(self):
        self.assertEqual([3, 3], without_each(case(2, 1, 0), attack(0, 0, 0), proof(0, 0, 1)))
        self.assertEqual([3, 3, 2], without_each(case(2, 1, 0), attack(0, 0, 0), proof(0, 0, 1), proof(0, 1, 1)))

    def test_another_attack_is_left(self):
        line = [case(2, 1, 0), attack(0, 0, 0), attack(1, 0, 1), proof(0, 0, 1, 1, 1)]
        self.assertEqual([2, 2, 3], without_each(*line))

    def test_proof_for_and_against(self):
        line = [case(2, 2, 0), attack(0, 0, 0), proof(0, 0, 2), proof(3, 0, -1), proof(1, 0, 1)]
        self.assertEqual([3, 3, 2, 3], without_each(*line))
        line = [case(2, 2, 0), attack(0, 0, 0), proof(0, 0, 2), proof(3, 0, -1)]
        self.assertEqual([3, 3, 2], without_each(*line))

    def test_each_claim(self):
        line = [case(4, 1, 0), proof(0, 0, 1)] + [attack(0, c, 0) for c in (0, 2, 3)] + [attack(0, 1, 1)]
        self.assertEqual([15, 3, 6, 10, 2], without_each(*line))

    def test_24_pieces(self):
        line = [case(1, 20, 0), attack(0, 0, 0)] + [proof(0, 0, 1)] * 22 + [proof(3, 0, -2)]
        self.assertEqual([1] + [1] * 22 + [0], without_each(*line))


class UntilTheFirstDecision(unittest.TestCase):
    # Claim 0 hangs on fact 0, which has 2 of 3 in time.
    LINE = [case(3, 3, 0), attack(0, 0, 0), proof(0, 0, 2), tick(1)]

    def test_a_late_piece_that_was_let_in(self):
        self.assertEqual([7, 7, 7], without_each(*self.LINE, proof(1, 0, 1)))
        saved = [case(2, 2, 0), attack(0, 0, 0), proof(0, 0, 2), tick(1), proof(3, 0, -1)]
        self.assertEqual([3, 3, 2], without_each(*saved))

    def test_a_late_piece_that_was_not_let_in(self):
        taken(self, [6], self.LINE + [proof(1, 0, 1), proof(2, 0, 9)], without(3))
        taken(self, [7], self.LINE + [proof(2, 7, 9)], without(2))

    def test_a_later_one_is_let_in_in_its_place(self):
        # 3 turns nothing behind 2, but brings the claim down if 2 isn't there.
        line = self.LINE + [proof(1, 0, 1), proof(2, 0, 1)]
        self.assertEqual([4, 1, 1, 1, 0], ask(*line, let_in(0))[-1])
        self.assertEqual([7, 7, 6, 6], without_each(*line))

    def test_a_late_one_is_let_in_if_one_in_time_is_not_there(self):
        # 2 turns nothing as 1 is enough; without 1 it is.
        line = [case(2, 2, 0), attack(0, 0, 0), proof(0, 0, 2), tick(1), proof(1, 0, 3)]
        self.assertEqual([3, 2, 2], without_each(*line))
        # Without the attack 0 the late attack 2 turns the claim's fate.
        line = [case(2, 2, 0), attack(0, 0, 0), proof(0, 0, 2), tick(1), attack(1, 0, 0)]
        self.assertEqual([2, 3, 2], without_each(*line))

    def test_a_late_one_that_was_let_in_is_out_if_one_in_time_is_not_there(self):
        # -1 saves the claim from 3 alone; without 1 it is out, and the late 3 is let in.
        line = [case(1, 3, 0), attack(0, 0, 0), proof(0, 0, 3), tick(1), proof(3, 0, -1), proof(1, 0, 3)]
        self.assertEqual([4, 1, 1, 1, 1], ask(*line, let_in(0))[-1])
        self.assertEqual([1, 0, 0, 1], without_each(*line))

    def test_claim_by_claim(self):
        # Late: 3 turns claim 0 alone, 4 both, 5 claim 1 alone.
        line = [
            case(3, 3, 0), attack(0, 0, 0), attack(0, 1, 0, 1), proof(0, 0, 2, 1, 2), tick(1), proof(1, 0, 1),
            proof(3, 0, -1, 1, -1), proof(2, 0, 2, 1, 2),
        ]
        self.assertEqual([[6, 1, 1, 1, 1, 1, 1], [6, 1, 1, 1, 0, 0, 1]], ask(*line, let_in(0), let_in(1))[-2:])
        self.assertEqual([5, 6, 7, 4, 4, 7], without_each(*line))


class BehindTheFirstDecision(unittest.TestCase):
    def test_a_piece_of_then_is_taken_out(self):
        line = [case(2, 1, 0), attack(0, 0, 0), proof(0, 0, 1), request(2), tick(1), decide()]
        self.assertEqual([3, 3], without_each(*line))
        self.assertEqual([3, 3], without_each(*line, tick(61), close()))

    def test_what_was_out_then_is_not_let_in_anew(self):
        # Until the decision 3 takes the place of 2; behind it 3 stays out.
        line = [case(1, 3, 0), attack(0, 0, 0), proof(0, 0, 2), tick(1), proof(1, 0, 1), proof(2, 0, 1)]
        self.assertEqual([1, 1, 0, 0], without_each(*line))
        self.assertEqual([1, 1, 1, 0], without_each(*line, decide()))

    def test_what_came_since_is_let_in_anew(self):
        line = [case(1, 3, 0), attack(0, 0, 0), proof(0, 0, 2), tick(1), proof(1, 0, 1), decide(), proof(2, 0, 1)]
        self.assertEqual([4, 1, 1, 1, 0], ask(*line, let_in(0))[-1])
        self.assertEqual([1, 1, 0, 0], without_each(*line))

    def test_what_was_in_then_stays_in(self):
        # Until the decision -1 is out without 1, so that 3 counts; behind it -1 stays and 3 isn't enough.
        pieces = [attack(0, 0, 0), proof(0, 0, 3), tick(1), proof(3, 0, -1)]
        self.assertEqual([1, 0, 0, 1], without_each(case(1, 3, 0), *pieces, proof(1, 0, 3)))
        self.assertEqual([1, 1, 0, 1], without_each(case(1, 3, 0), *pieces, decide(), proof(1, 0, 3)))
        # With 4 it is enough.
        self.assertEqual([1, 0, 0, 1], without_each(case(1, 3, 0), *pieces, decide(), proof(1, 0, 4)))

    def test_one_of_those_that_came_since(self):
        line = [case(2, 3, 0), attack(0, 0, 0), proof(0, 0, 2), tick(1), decide()]
        # 2 brings the claim down, 3 saves it, 4 turns nothing.
        since = [proof(1, 0, 1), proof(3, 0, -1), proof(3, 0, -1)]
        self.assertEqual([5, 1, 1, 1, 1, 0], ask(*line, *since, let_in(0))[-1])
        # Without 3 the other -1 takes its place, as those since are let in anew.
        self.assertEqual([3, 3, 3, 3, 3], without_each(*line, *since))
        self.assertEqual([3, 3, 3, 2], without_each(*line, *since[:2]))

    def test_one_of_those_that_came_since_and_was_not_let_in(self):
        line = [case(2, 3, 0), attack(0, 0, 0), tick(1), decide(), proof(1, 0, 1), proof(1, 0, 3)]
        self.assertEqual([3, 1, 0, 1], ask(*line, let_in(0))[-1])
        self.assertEqual([3, 2, 3], without_each(*line))

    def test_a_late_attack_of_then_and_one_since(self):
        line = [case(2, 1, 0), proof(0, 0, 1), tick(1), attack(0, 0, 0), decide(), attack(1, 0, 0), attack(2, 1, 0)]
        self.assertEqual([[4, 1, 1, 0, 0], [4, 1, 0, 0, 1]], ask(*line, let_in(0), let_in(1))[-2:])
        self.assertEqual([3, 0, 0, 2], without_each(*line))

    def test_a_piece_that_counted_as_to_one_claim_only(self):
        # Late: 3 counted as to claim 0 alone. Without it 4 turns claim 0; as to claim 1 nothing is other than it was.
        line = [
            case(2, 3, 0), attack(0, 0, 0), attack(0, 1, 0, 1), proof(0, 0, 2), tick(1), proof(1, 0, 1), decide(),
            proof(2, 0, 1, 1, 3),
        ]
        self.assertEqual([[5, 1, 1, 1, 1, 0], [5, 1, 1, 1, 0, 1]], ask(*line, let_in(0), let_in(1))[-2:])
        self.assertEqual([1, 2, 3, 0, 2], without_each(*line))

    def test_over(self):
        line = [case(1, 3, 0), attack(0, 0, 0), proof(0, 0, 3), tick(1), proof(3, 0, -1), decide(), proof(1, 0, 3)]
        self.assertEqual(without_each(*line), without_each(*line, tick(61), close()))
        self.assertEqual([1, 1, 0, 1], without_each(*line, tick(61), close()))


class ChangesNothing(unittest.TestCase):
    def test_the_rest_of_the_line_answers_alike(self):
        line = [proof(3, 4, -1), proof(0, 4, 3)]
        for before in (PHASE_1 + line, PHASE_1 + [tick(6)] + line, PHASE_2 + line, PHASE_3):
            for i in range(3):
                with self.subTest(before=before, i=i):
                    asked = ask(*before, without(i), without(i), *PROBES)
                    self.assertEqual(asked[len(before)], asked[len(before) + 1])
                    self.assertEqual(ask(*before, *PROBES)[len(before):], asked[len(before) + 2:])

    def test_no_question_changes_anything(self):
        line = [
            case(3, 3, 0), attack(0, 0, 0), attack(0, 1, 0, 1), proof(0, 0, 2), request(6), tick(1), proof(1, 0, 1),
            proof(3, 1, 3), decide(), appeal(0, 4), appeal(3, 1), proof(2, 0, 1, 1, 3), proof(3, 0, -2), tick(61),
            close(), alive(),
        ]
        asked = ask(*[call for step in line for call in (step, *QUESTIONS)])
        self.assertEqual(ask(*line), asked[::1 + len(QUESTIONS)])


if __name__ == "__main__":
    unittest.main()
