"""What each call refuses behind its ranges, in which order, and that a refusal changes nothing."""

import unittest

from tests.helper import (
    PHASE_1, PHASE_2, PHASE_3, PHASES, QUESTIONS, alive, appeal, appeals, ask, attack, case, close, days, decide, fact,
    fewest, last, let_in, piece, proof, refused, request, requests, status, taken, tick, why, withdraw, without, would,
)

PIECES_FULL = [case(3, 1, 5)] + [attack(0, 1, 2), proof(0, 2, 1)] + [proof(1, 5, -1)] * 22
REQUESTS_FULL = PHASE_1 + [request(1)] * 4
# Claim 1 has fallen, {0, 2} is kept.
APPEALS_FULL = PHASE_2 + [appeal(0, 1), appeal(1, 4), appeal(3, 2), appeal(0, 5)] * 2
LAST_DAY = PHASE_1 + days(10000)


class Attack(unittest.TestCase):
    def test_a_claim_that_the_case_does_not_have(self):
        for before in (PHASE_1, PHASE_2, PHASE_3):
            for c in (3, 4, 5):
                refused(self, -5, before, attack(0, c, 1))
        refused(self, -5, [case(1, 1, 0)], attack(0, 1, 1))
        refused(self, -5, [case(5, 1, 0)], attack(0, 5, 1))
        taken(self, [0], [case(5, 1, 0)], attack(0, 4, 1))

    def test_no_case_or_over(self):
        for c in range(6):
            refused(self, -6, [], attack(0, c, 1))
        for c in range(3):
            refused(self, -6, PHASE_3, attack(0, c, 1))

    def test_24_pieces(self):
        taken(self, [23], PIECES_FULL[:-1], attack(0, 0, 1))
        for c in range(3):
            refused(self, -3, PIECES_FULL, attack(0, c, 1))
        refused(self, -3, PIECES_FULL + [tick(6), decide()], attack(0, 0, 1))

    def test_order(self):
        refused(self, -5, PIECES_FULL, attack(0, 3, 1))
        over = PIECES_FULL + [tick(6), decide(), tick(61), close()]
        refused(self, -6, over, attack(0, 0, 1))
        refused(self, -5, over, attack(0, 3, 1))
        refused(self, -1, over, attack(3, 3, 1))
        refused(self, -1, over, attack(0, 3))


class Proof(unittest.TestCase):
    def test_no_case_or_over(self):
        for p in range(4):
            refused(self, -6, [], proof(p, 0, 1))
            refused(self, -6, PHASE_3, proof(p, 0, 1))
            taken(self, [2], PHASE_1, proof(p, 0, 1))
            taken(self, [2], PHASE_2, proof(p, 0, 1))

    def test_24_pieces(self):
        taken(self, [23], PIECES_FULL[:-1], proof(0, 0, 1))
        refused(self, -3, PIECES_FULL, proof(0, 0, 1))
        refused(self, -3, PIECES_FULL + [tick(6), decide()], proof(0, 0, 1))

    def test_pieces_that_are_not_let_in_are_pieces_too(self):
        before = [case(1, 1, 0), tick(1)] + [proof(0, 0, 1)] * 12 + [decide()] + [proof(0, 0, 1)] * 12
        self.assertEqual([23], last(*before))
        refused(self, -3, before, proof(0, 0, 1))

    def test_order(self):
        over = PIECES_FULL + [tick(6), decide(), tick(61), close()]
        refused(self, -6, over, proof(0, 0, 1))
        refused(self, -1, over, proof(0, 0, 0))
        refused(self, -1, PIECES_FULL, proof(4, 0, 1))


class Request(unittest.TestCase):
    def test_only_in_phase_1(self):
        for before in ([], PHASE_2, PHASE_3):
            for m in (1, 7, 8, 63):
                refused(self, -6, before, request(m))
        taken(self, [2], PHASE_1 + [tick(6)], request(1))

    def test_a_claim_that_the_case_does_not_have(self):
        for m in (8, 9, 15, 16, 32, 63):
            refused(self, -5, PHASE_1, request(m))
        for m in range(1, 8):
            taken(self, [2], PHASE_1, request(m))
        refused(self, -5, [case(1, 1, 0)], request(2))
        refused(self, -5, [case(5, 1, 0)], request(32))

    def test_six_requests(self):
        taken(self, [5], REQUESTS_FULL[:-1], request(1))
        refused(self, -3, REQUESTS_FULL, request(1))

    def test_order(self):
        refused(self, -5, REQUESTS_FULL, request(8))
        refused(self, -6, REQUESTS_FULL + [tick(6), decide()], request(8))
        refused(self, -6, REQUESTS_FULL + [tick(6), decide()], request(1))
        refused(self, -1, REQUESTS_FULL + [tick(6), decide()], request(64))


class Tick(unittest.TestCase):
    def test_no_case(self):
        refused(self, -6, [], tick(1))
        refused(self, -6, [], tick(365))

    def test_goes_on_in_each_other_phase(self):
        taken(self, [1], PHASE_1, tick(1))
        taken(self, [7], PHASE_2, tick(1))
        taken(self, [68], PHASE_3, tick(1))

    def test_no_later_than_day_10000(self):
        self.assertEqual([10000], last(*LAST_DAY))
        refused(self, -3, LAST_DAY, tick(1))
        refused(self, -3, LAST_DAY, tick(365))
        near = PHASE_1 + days(9990)
        taken(self, [10000], near, tick(10))
        refused(self, -3, near, tick(11))
        refused(self, -3, near, tick(365))
        taken(self, [10000], near + [tick(11)], tick(10))

    def test_order(self):
        refused(self, -1, LAST_DAY, tick(366))
        refused(self, -1, [], tick(0))


class Decide(unittest.TestCase):
    def test_only_in_phase_1_behind_the_limit(self):
        refused(self, -6, [], decide())
        refused(self, -6, PHASE_1, decide())
        refused(self, -6, PHASE_1 + [tick(5)], decide())
        taken(self, [5, 1], PHASE_1 + [tick(6)], decide())
        taken(self, [5, 1], PHASE_1 + [tick(300)], decide())
        refused(self, -6, PHASE_2, decide())
        refused(self, -6, PHASE_2 + [tick(100)], decide())
        refused(self, -6, PHASE_3, decide())


class Appeal(unittest.TestCase):
    def test_only_in_phase_2(self):
        for before in ([], PHASE_1, PHASE_1 + [tick(6)], PHASE_3):
            for p in range(4):
                for m in (1, 2, 8, 63):
                    refused(self, -6, before, appeal(p, m))

    def test_at_most_60_days_behind_the_first_decision(self):
        for wait in (0, 1, 59, 60):
            taken(self, [0], PHASE_2 + days(wait), appeal(0, 1))
            taken(self, [0], PHASE_2 + days(wait), appeal(3, 2))
        for wait in (61, 62, 365):
            refused(self, -6, PHASE_2 + days(wait), appeal(0, 1))
            refused(self, -6, PHASE_2 + days(wait), appeal(3, 2))

    def test_the_days_are_counted_from_the_decision_not_from_the_limit(self):
        late = PHASE_1 + [tick(200), decide()]
        taken(self, [0], late + [tick(60)], appeal(0, 1))
        refused(self, -6, late + [tick(61)], appeal(0, 1))

    def test_an_opponent_names_kept_claims_only(self):
        for o in range(3):
            for m in (1, 4, 5):
                taken(self, [0], PHASE_2, appeal(o, m))
            for m in (2, 3, 6, 7, 8, 9, 13, 32, 63):
                refused(self, -5, PHASE_2, appeal(o, m))

    def test_the_owner_names_claims_of_the_case_that_are_not_kept(self):
        taken(self, [0], PHASE_2, appeal(3, 2))
        for m in (1, 3, 4, 5, 6, 7, 8, 10, 32, 63):
            refused(self, -5, PHASE_2, appeal(3, m))

    def test_the_owner_may_name_a_claim_that_stood_but_was_not_asked_for(self):
        before = [case(3, 1, 0), attack(0, 0, 0), proof(0, 0, 1), request(2), tick(1), decide()]
        self.assertEqual([2, 1], last(*before))
        taken(self, [0], before, appeal(3, 5))
        refused(self, -5, before, appeal(0, 4))

    def test_eight_appeals(self):
        self.assertEqual([7], last(*APPEALS_FULL))
        for p, m in ((0, 1), (1, 4), (2, 5), (3, 2)):
            refused(self, -3, APPEALS_FULL, appeal(p, m))
        taken(self, [4], APPEALS_FULL + [withdraw(0)], appeal(0, 1))

    def test_order(self):
        refused(self, -5, APPEALS_FULL, appeal(0, 2))
        refused(self, -5, APPEALS_FULL, appeal(3, 1))
        refused(self, -5, APPEALS_FULL, appeal(3, 8))
        refused(self, -6, APPEALS_FULL + [tick(61)], appeal(0, 2))
        refused(self, -6, APPEALS_FULL + [tick(61)], appeal(0, 1))
        refused(self, -1, APPEALS_FULL + [tick(61)], appeal(4, 2))
        refused(self, -1, APPEALS_FULL + [tick(61)], appeal(0, 64))


class Withdraw(unittest.TestCase):
    def test_no_case_or_over(self):
        for o in range(3):
            refused(self, -6, [], withdraw(o))
            refused(self, -6, PHASE_3, withdraw(o))
            taken(self, [0], PHASE_1, withdraw(o))
            taken(self, [0], PHASE_2, withdraw(o))


class Close(unittest.TestCase):
    def test_only_in_phase_2_more_than_60_days_behind_the_first_decision(self):
        for before in ([], PHASE_1, PHASE_1 + [tick(300)], PHASE_3, PHASE_3 + [tick(100)]):
            refused(self, -6, before, close())
        for wait in (0, 1, 59, 60):
            refused(self, -6, PHASE_2 + days(wait), close())
        for wait in (61, 62, 365, 1000):
            taken(self, [5], PHASE_2 + days(wait), close())


class Alive(unittest.TestCase):
    def test_no_case(self):
        refused(self, -6, [], alive())

    def test_in_each_other_phase(self):
        for before in (PHASE_1, PHASE_2, PHASE_3):
            taken(self, [5], before, alive())

    def test_asking_changes_nothing(self):
        line = [call for call in PHASE_3 for call in (call, alive())]
        self.assertEqual(ask(*PHASE_3), ask(*line)[::2])


OF_A_CLAIM = [lambda c: fact(c, 4), why, fewest, let_in]


class OfAClaim(unittest.TestCase):
    def test_no_case(self):
        for call in OF_A_CLAIM:
            for c in range(6):
                refused(self, -6, [], call(c))

    def test_a_claim_that_the_case_does_not_have(self):
        for call in OF_A_CLAIM:
            for before in (PHASE_1, PHASE_2, PHASE_3):
                for c in (3, 4, 5):
                    refused(self, -5, before, call(c))
            for n in range(1, 6):
                refused(self, -5, [case(n, 1, 0)], call(n))
                self.assertGreaterEqual(last(case(n, 1, 0), call(n - 1))[0], 0)

    def test_answers_in_each_other_phase(self):
        for before in (PHASE_1, PHASE_2, PHASE_3):
            taken(self, [0, 0], before, fact(0, 0))
            for c in range(3):
                taken(self, [1, 2], before, fact(c, 4))
                taken(self, [1, 0] if c == 1 else [0], before, why(c))
                taken(self, [1, 4] if c == 1 else [0], before, fewest(c))
                taken(self, [2, 1, 1], before, let_in(c))

    def test_order(self):
        for before in PHASES:
            for call in OF_A_CLAIM:
                refused(self, -1, before, call(6))
                refused(self, -1, before, call(-1))
            # Out of range and not one of the case's: the range is asked first.
            refused(self, -1, before, fact(5, 8))
            refused(self, -1, before, fact(5, -1))
        refused(self, -6, [], fact(5, 7))


class Without(unittest.TestCase):
    def test_no_case(self):
        for i in (0, 1, 23):
            refused(self, -6, [], without(i))

    def test_no_such_piece(self):
        for before in (PHASE_1, PHASE_2, PHASE_3):
            for i in (0, 1):
                taken(self, [7], before, without(i))
            for i in (2, 3, 22, 23):
                refused(self, -5, before, without(i))
        refused(self, -5, [case(1, 1, 0)], without(0))
        taken(self, [7], PIECES_FULL, without(0))
        taken(self, [5], PIECES_FULL, without(23))
        refused(self, -5, PIECES_FULL[:-1], without(23))

    def test_order(self):
        for before in PHASES:
            refused(self, -1, before, without(24))
            refused(self, -1, before, without(-1))


class Piece(unittest.TestCase):
    def test_no_such_piece_in_each_phase(self):
        for i in (0, 1, 2, 23):
            refused(self, -5, [], piece(i))
        for before in (PHASE_1, PHASE_2, PHASE_3):
            taken(self, [0, 0, 0, 1, 4], before, piece(0))
            taken(self, [0, 0, 1, 4, 2], before, piece(1))
            for i in (2, 3, 23):
                refused(self, -5, before, piece(i))
        taken(self, [1, 0, 1, 5, -1], PIECES_FULL, piece(23))
        refused(self, -5, PIECES_FULL[:-1], piece(23))

    def test_order(self):
        for before in PHASES:
            refused(self, -1, before, piece(24))
            refused(self, -1, before, piece(-1))


class WithoutRefusals(unittest.TestCase):
    def test_requests_appeals_and_status_answer_in_each_phase(self):
        told = (
            ([0], [0], [0, 0, 0, 0, 0, 0, 0, 0]),
            ([2, 7, 5], [0], [1, 0, 3, 5, 0, 0, 0, 0]),
            ([2, 7, 5], [0], [2, 6, 3, 5, 5, 1, 6, 0]),
            ([2, 7, 5], [1, 1, 4], [3, 67, 3, 5, 5, 1, 6, 5]),
        )
        for before, answers in zip(PHASES, told):
            taken(self, answers[0], before, requests())
            taken(self, answers[1], before, appeals())
            taken(self, answers[2], before, status())


class Would(unittest.TestCase):
    def test_only_in_the_phases_1_and_2(self):
        refused(self, -6, [], would())
        taken(self, [5, 1], PHASE_1, would())
        taken(self, [5, 1], PHASE_1 + [tick(300)], would())
        taken(self, [5], PHASE_2, would())
        taken(self, [5], PHASE_2 + [tick(300)], would())
        refused(self, -6, PHASE_3, would())


class Over(unittest.TestCase):
    def test_the_calls_9_to_14_answer_as_in_phase_2(self):
        asked = [call for call in QUESTIONS if call[0] in (9, 10, 11, 12, 13, 14)]
        since = PHASE_2 + [appeal(0, 1), attack(2, 0, 4), proof(3, 4, -1), proof(1, 4, 1, 7, 2), tick(61)]
        for before in (PHASE_2 + [tick(61)], since):
            told = ask(*before, *asked)
            over = ask(*before, close(), *asked)
            self.assertEqual(told[len(before):], over[len(before) + 1:])


if __name__ == "__main__":
    unittest.main()
