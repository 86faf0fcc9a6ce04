"""piece, requests, appeals, status and would: what the case holds, told as it stands."""

import unittest

from tests.helper import (
    PHASE_1, PHASE_2, PHASE_3, PHASES, appeal, appeals, ask, attack, case, close, days, decide, last, piece, proof,
    request, requests, status, taken, tick, withdraw, would,
)

# Of four claims 0 and 1 are kept by request 1, 2 and 3 have fallen; each hangs on the fact of its own number.
FOUR = (
    [case(4, 2, 7)] + [attack(0, claim, claim) for claim in range(4)]
    + [proof(0, 2, 2, 3, 2), request(3), tick(9), decide()]
)
MADE = [appeal(0, 1), appeal(1, 1), appeal(0, 2), appeal(3, 4), appeal(1, 3), appeal(0, 3)]


class Piece(unittest.TestCase):
    LINE = [
        case(6, 3, 4), attack(0, 5, 7), attack(2, 0, 0, 3, 6), proof(3, 0, -9, 7, 9), tick(4), proof(1, 2, 1), tick(1),
        attack(1, 3, 1, 2), proof(2, 4, 3), decide(), proof(0, 1, 2, 2, -2, 5, 1), attack(0, 2, 4),
    ]
    TOLD = [
        [0, 0, 0, 5, 7], [2, 0, 0, 0, 0, 3, 6], [3, 0, 1, 0, -9, 7, 9], [1, 0, 1, 2, 1],
        [1, 1, 0, 3, 1, 2], [2, 1, 1, 4, 3], [0, 1, 1, 1, 2, 2, -2, 5, 1], [0, 1, 0, 2, 4],
    ]

    def test_attacks_and_proof_in_time_and_late(self):
        for i, told in enumerate(self.TOLD):
            taken(self, told, self.LINE, piece(i))
            taken(self, told, self.LINE + [tick(61), close()], piece(i))

    def test_as_soon_as_it_is_there(self):
        taken(self, [0, 0, 0, 5, 7], self.LINE[:2], piece(0))
        taken(self, [1, 1, 0, 3, 1, 2], self.LINE[:8], piece(4))

    def test_late_or_not_is_told_by_the_day_it_came(self):
        for day in (0, 3, 4):
            taken(self, [0, 0, 1, 0, 1], [case(1, 1, 4)] + days(day) + [proof(0, 0, 1), tick(9)], piece(0))
        for day in (5, 6, 100):
            taken(self, [0, 1, 1, 0, 1], [case(1, 1, 4)] + days(day) + [proof(0, 0, 1)], piece(0))
        taken(self, [0, 0, 1, 0, 1], [case(1, 1, 0), proof(0, 0, 1)], piece(0))
        taken(self, [0, 1, 1, 0, 1], [case(1, 1, 0), tick(1), proof(0, 0, 1)], piece(0))
        taken(self, [0, 0, 0, 0, 0], [case(1, 1, 365), tick(365), attack(0, 0, 0)], piece(0))
        taken(self, [0, 1, 0, 0, 0], [case(1, 1, 365), tick(365), tick(1), attack(0, 0, 0)], piece(0))

    def test_late_is_not_let_in(self):
        line = [case(1, 3, 0), attack(0, 0, 0), tick(1), proof(0, 0, 1), proof(0, 0, 3)]
        self.assertEqual([[0, 1, 1, 0, 1], [0, 1, 1, 0, 3]], ask(*line, piece(1), piece(2))[-2:])

    def test_all_facts(self):
        every = [number for f in range(8) for number in (f, -9 if f % 2 else 9)]
        taken(self, [3, 0, 1] + every, [case(1, 1, 0), proof(3, *every)], piece(0))

    def test_each_bringer(self):
        for p in range(4):
            taken(self, [p, 0, 1, 0, 1], [case(1, 1, 0), proof(p, 0, 1)], piece(0))
        for o in range(3):
            taken(self, [o, 0, 0, 0, 1], [case(1, 1, 0), attack(o, 0, 1)], piece(0))

    def test_a_withdraw_leaves_them(self):
        line = self.LINE + [appeal(0, 1), appeal(1, 1), withdraw(0), withdraw(1), withdraw(2)]
        for i, told in enumerate(self.TOLD):
            taken(self, told, line, piece(i))

    def test_behind_a_second_case(self):
        line = self.LINE + [case(2, 1, 0)]
        for i in range(len(self.TOLD)):
            taken(self, [-5], line, piece(i))
        taken(self, [2, 0, 0, 1, 6], line + [attack(2, 1, 6)], piece(0))
        taken(self, [-5], line + [attack(2, 1, 6)], piece(1))


class Requests(unittest.TestCase):
    def test_before_any_case(self):
        taken(self, [0], [], requests())
        taken(self, [0], [request(1), case(0, 1, 1), tick(1)], requests())

    def test_all_claims_first(self):
        for n in range(1, 7):
            taken(self, [1, 2 ** n - 1], [case(n, 1, 0)], requests())

    def test_in_the_order_told(self):
        line = [case(3, 1, 0), request(6), request(1), request(6), request(7), request(2)]
        for cut in range(6):
            taken(self, [1 + cut] + [7, 6, 1, 6, 7, 2][:1 + cut], line[:1 + cut], requests())
        taken(self, [6, 7, 6, 1, 6, 7, 2], line + [request(4), request(8), request(64)], requests())

    def test_they_stay_behind_the_decision_and_over(self):
        taken(self, [2, 7, 5], PHASE_1, requests())
        taken(self, [2, 7, 5], PHASE_2, requests())
        taken(self, [2, 7, 5], PHASE_3, requests())
        taken(self, [2, 15, 3], FOUR + MADE + [withdraw(0), withdraw(1)], requests())

    def test_behind_a_second_case(self):
        for before in PHASES:
            taken(self, [1, 3], before + [case(2, 1, 0)], requests())
            taken(self, [2, 3, 2], before + [case(2, 1, 0), request(2)], requests())


class Appeals(unittest.TestCase):
    def test_none(self):
        for before in ([], PHASE_1, PHASE_2, FOUR, PHASE_2 + [tick(61), close()], [withdraw(0)]):
            taken(self, [0], before, appeals())

    def test_in_the_order_in_which_they_came(self):
        told = [0, 1, 1, 1, 0, 2, 3, 4, 1, 3, 0, 3]
        for cut in range(len(MADE) + 1):
            taken(self, [cut] + told[:2 * cut], FOUR + MADE[:cut], appeals())
        taken(self, [6] + told, FOUR + MADE + [tick(61)], appeals())
        taken(self, [6] + told, FOUR + MADE + [tick(61), close()], appeals())

    def test_eight(self):
        line = FOUR + [appeal(0, 1), appeal(3, 12)] * 4 + [appeal(1, 1)]
        taken(self, [8] + [0, 1, 3, 12] * 4, line, appeals())

    def test_behind_a_withdraw(self):
        taken(self, [3, 1, 1, 3, 4, 1, 3], FOUR + MADE + [withdraw(0)], appeals())
        taken(self, [4, 0, 1, 0, 2, 3, 4, 0, 3], FOUR + MADE + [withdraw(1)], appeals())
        taken(self, [6, 0, 1, 1, 1, 0, 2, 3, 4, 1, 3, 0, 3], FOUR + MADE + [withdraw(2)], appeals())
        taken(self, [1, 3, 4], FOUR + MADE + [withdraw(1), withdraw(0)], appeals())
        taken(self, [2, 3, 4, 0, 2], FOUR + MADE + [withdraw(1), withdraw(0), appeal(0, 2)], appeals())
        taken(self, [1, 3, 4], FOUR + MADE + [withdraw(1), withdraw(0), tick(61), close()], appeals())

    def test_behind_a_second_case(self):
        for before in (FOUR + MADE, FOUR + MADE + [tick(61), close()], PHASE_3):
            taken(self, [0], before + [case(2, 1, 0)], appeals())
            taken(self, [1, 2, 3], before + [case(2, 1, 0), tick(1), decide(), appeal(2, 3)], appeals())


class Status(unittest.TestCase):
    def test_before_any_case(self):
        taken(self, [0] * 8, [], status())
        taken(self, [0] * 8, [tick(1), decide(), close(), case(7, 1, 1)], status())

    def test_until_the_first_decision(self):
        taken(self, [1, 0, 4, 7, 0, 0, 0, 0], [case(4, 2, 7)], status())
        taken(self, [1, 0, 6, 365, 0, 0, 0, 0], [case(6, 20, 365)], status())
        taken(self, [1, 0, 1, 0, 0, 0, 0, 0], [case(1, 1, 0)], status())
        taken(self, [1, 9, 4, 7, 0, 0, 0, 0], FOUR[:-1], status())
        taken(self, [1, 10000, 3, 5, 0, 0, 0, 0], PHASE_1 + days(10000), status())

    def test_behind_the_first_decision(self):
        taken(self, [2, 9, 4, 7, 3, 1, 9, 0], FOUR, status())
        taken(self, [2, 69, 4, 7, 3, 1, 9, 0], FOUR + MADE + [tick(60)], status())
        taken(self, [2, 6, 3, 5, 5, 1, 6, 0], PHASE_2, status())
        taken(self, [2, 1, 3, 0, 7, 0, 1, 0], [case(3, 1, 0), tick(1), decide()], status())

    def test_nothing_is_kept(self):
        down = [case(2, 1, 0), attack(0, 0, 0), attack(0, 1, 0), proof(0, 0, 1)]
        taken(self, [2, 1, 2, 0, 0, 1, 1, 0], down + [tick(1), decide()], status())
        taken(self, [2, 1, 2, 0, 0, 3, 1, 0], down + [request(1), request(2), tick(1), decide()], status())

    def test_what_is_kept_stays_though_the_outcome_turns(self):
        line = FOUR + [appeal(0, 1), proof(0, 0, 2)]
        taken(self, [2, 9, 4, 7, 3, 1, 9, 0], line, status())
        taken(self, [2, 70, 4, 7, 3, 1, 9, 0], line + [tick(61)], status())
        taken(self, [3, 70, 4, 7, 3, 1, 9, 2], line + [tick(61), close()], status())
        taken(self, [3, 75, 4, 7, 3, 1, 9, 2], line + [tick(61), close(), tick(5)], status())

    def test_an_outcome_of_nothing(self):
        line = [case(1, 1, 0), attack(0, 0, 0), tick(1), decide(), appeal(0, 1), proof(0, 0, 1), tick(61), close()]
        taken(self, [3, 62, 1, 0, 1, 0, 1, 0], line, status())

    def test_behind_a_withdraw(self):
        taken(self, [2, 9, 4, 7, 3, 1, 9, 0], FOUR + MADE + [withdraw(0)], status())
        line = FOUR + [appeal(0, 1), proof(0, 0, 2), withdraw(0), tick(61), close()]
        taken(self, [3, 70, 4, 7, 3, 1, 9, 3], line, status())

    def test_behind_a_second_case(self):
        for before in list(PHASES) + [FOUR + MADE, FOUR + MADE + [proof(0, 0, 2), tick(61), close()]]:
            taken(self, [1, 0, 2, 11, 0, 0, 0, 0], before + [case(2, 1, 11)], status())
            taken(self, [2, 12, 2, 11, 3, 0, 12, 0], before + [case(2, 1, 11), tick(12), decide()], status())

    def test_a_refused_case_leaves_it(self):
        taken(self, [2, 9, 4, 7, 3, 1, 9, 0], FOUR + [case(7, 1, 0)], status())


class Would(unittest.TestCase):
    # Claims 0 and 2 of four are down: 1 and 3 stand.
    DOWN = [case(4, 1, 0), attack(0, 0, 0), attack(1, 2, 1), proof(0, 0, 1, 1, 1)]

    def test_before_any_case_and_over(self):
        taken(self, [-6], [], would())
        taken(self, [-6], PHASE_3, would())
        taken(self, [-6], PHASE_3 + [tick(9)], would())

    def test_what_would_be_granted_and_its_number(self):
        for n in range(1, 7):
            taken(self, [2 ** n - 1, 0], [case(n, 1, 0)], would())
        taken(self, [0, 1], self.DOWN, would())
        taken(self, [0, 2], self.DOWN + [request(1)], would())
        taken(self, [10, 1], self.DOWN + [request(10)], would())
        taken(self, [2, 2], self.DOWN + [request(3), request(2), request(10)], would())
        taken(self, [0, 6], self.DOWN + [request(1)] * 5, would())
        taken(self, [8, 5], self.DOWN + [request(1)] * 4 + [request(8)], would())

    def test_it_is_what_decide_then_keeps(self):
        for asked in ([], [1], [10], [3, 2, 10], [1, 1, 4, 5, 8]):
            line = self.DOWN + [request(m) for m in asked] + [tick(1)]
            self.assertEqual(last(*line, would()), last(*line, decide()))
            saved = line + [proof(3, 0, -1), proof(3, 1, -1)]
            self.assertEqual(last(*saved, would()), last(*saved, decide()))
            self.assertEqual([15, 0], last(*saved, would()))

    def test_the_outcome_as_it_is_now(self):
        turned = [proof(1, 0, 2), proof(1, 1, 2), proof(3, 2, -1), proof(3, 3, -1)]
        for made, outcome in (
            ([], 3), ([appeal(0, 1)], 2), ([appeal(1, 2)], 1), ([appeal(2, 3)], 0), ([appeal(3, 4)], 7),
            ([appeal(3, 12)], 15), ([appeal(3, 8), appeal(0, 1)], 10), ([appeal(0, 1), appeal(3, 8)], 10),
        ):
            taken(self, [3], FOUR + made, would())
            taken(self, [outcome], FOUR + made + turned, would())
            taken(self, [outcome], FOUR + turned + made, would())
            taken(self, [outcome], FOUR + made + turned + [tick(61)], would())
            self.assertEqual([outcome], last(*FOUR, *made, *turned, tick(61), close()))

    def test_it_turns_with_the_pieces(self):
        pieces = [proof(0, 0, 2), proof(3, 0, -1), proof(1, 0, 1)]
        line = FOUR + [appeal(0, 1), would()] + [call for brought in pieces for call in (brought, would())]
        self.assertEqual([[3], [5], [2], [6], [3], [7], [2]], ask(*line)[-7:])

    def test_behind_a_withdraw(self):
        line = FOUR + [appeal(0, 1), proof(0, 0, 2)]
        taken(self, [2], line, would())
        taken(self, [3], line + [withdraw(0)], would())
        taken(self, [2], line + [withdraw(1)], would())

    def test_behind_a_second_case(self):
        for before in PHASES:
            taken(self, [3, 0], before + [case(2, 1, 0)], would())
            taken(self, [3], before + [case(2, 1, 0), tick(1), decide()], would())


if __name__ == "__main__":
    unittest.main()
