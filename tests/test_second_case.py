"""A new case in each phase: nothing is left of the one before."""

import unittest

from tests.helper import (
    PHASE_3, PHASES, PROBES, alive, appeal, ask, attack, case, close, days, decide, last, proof, request, tick,
    withdraw,
)

# As much of everything as a case can hold, in each phase.
FULL_1 = (
    [case(6, 1, 3)] + [attack(claim % 3, claim, claim) for claim in range(4)]
    + [proof(0, 0, 9, 1, 9, 6, -9), proof(1, 6, 9, 7, -9)] + [request(63)] + [request(60)] * 4
    + days(3) + [proof(2, 7, -9)] * 9 + [tick(1)] + [proof(0, 2, 1), proof(3, 0, -9)] + [proof(0, 5, 1)] * 7
)
FULL_2 = FULL_1 + [tick(365), request(1), decide()]
FULL_2_APPEALS = [case(4, 1, 0), attack(0, 0, 0), tick(1), decide()] + [appeal(turn % 3, 15) for turn in range(8)]
FULL_3 = FULL_2_APPEALS + [proof(0, 0, 1)] * 23 + [tick(61), close()]

SECOND = [
    [case(3, 2, 5)],
    [case(1, 1, 0)],
    [case(6, 20, 365)],
    [case(3, 2, 5), attack(0, 2, 1), attack(1, 0, 2), proof(1, 1, 2), request(3), tick(6), decide()],
    [case(2, 1, 0), attack(0, 0, 0), proof(0, 0, 1), request(2), tick(1), decide(), appeal(3, 1)],
    PHASE_3,
]


class SecondCase(unittest.TestCase):
    def test_nothing_is_left_of_the_first(self):
        for first in list(PHASES) + [FULL_1, FULL_2, FULL_2_APPEALS, FULL_3]:
            for second in SECOND:
                with self.subTest(first=first, second=second):
                    alone = ask(*second, *PROBES)
                    self.assertEqual(alone, ask(*first, *second, *PROBES)[len(first):])

    def test_answers_0_in_each_phase(self):
        for first in list(PHASES) + [FULL_1, FULL_2, FULL_2_APPEALS, FULL_3]:
            self.assertEqual([0], last(*first, case(2, 2, 2)))

    def test_the_first_is_as_full_as_it_is_to_be(self):
        self.assertEqual([-3], last(*FULL_1, proof(0, 0, 1)))
        self.assertEqual([-3], last(*FULL_1, request(1)))
        self.assertEqual([-3], last(*FULL_2_APPEALS, appeal(0, 1)))
        self.assertEqual([-3], last(*FULL_3[:-2], proof(0, 0, 1)))
        self.assertEqual([14], last(*FULL_3))

    def test_the_day_and_the_pieces_begin_anew(self):
        told = ask(*FULL_3, case(2, 1, 4), tick(4), attack(0, 1, 3), proof(0, 3, 1), alive(), withdraw(0), decide())
        self.assertEqual([[0], [4], [0], [1], [1], [0], [-6]], told[len(FULL_3):])

    def test_a_refused_case_leaves_the_first(self):
        self.assertEqual([5], last(*PHASES[1], case(7, 1, 0), alive()))
        self.assertEqual([5], last(*PHASES[2], case(1, 0, 0), alive()))
        self.assertEqual([5], last(*PHASES[3], case(1, 1, 366), alive()))
        self.assertEqual([-6], last(case(0, 1, 0), alive()))


if __name__ == "__main__":
    unittest.main()
