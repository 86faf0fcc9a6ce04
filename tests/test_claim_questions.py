"""fact, why and let in: what they answer of one claim."""

import unittest

from tests.helper import (
    alive, appeal, ask, attack, case, close, decide, fact, fewest, last, let_in, proof, taken, tick, why,
)

# Claim 0 hangs on fact 0, claim 1 on the facts 0 and 1, claim 2 on nothing. Fact 0 has 2 of 3.
THREE = [case(3, 3, 0), attack(0, 0, 0), attack(0, 1, 0, 1), proof(0, 0, 2), tick(1)]
# Late: 3 turns claim 0 alone, 4 turns none, 5 turns claim 1 alone, 6 turns both back.
LATE = [proof(1, 0, 1), proof(1, 1, 3), proof(2, 0, 1, 1, 3), proof(3, 0, -2)]


class Fact(unittest.TestCase):
    def test_nothing_is_told_for_it(self):
        for c in range(3):
            for f in range(8):
                taken(self, [0, 0], [case(3, 1, 0)], fact(c, f))
                taken(self, [0, 0], [case(3, 1, 0), attack(0, c, 1, 2)], fact(c, f))

    def test_at_the_bar_and_below_it(self):
        for bar in (1, 2, 9):
            taken(self, [1, bar], [case(1, bar, 0), proof(0, 3, bar)], fact(0, 3))
        for bar in (2, 9):
            taken(self, [0, bar - 1], [case(1, bar, 0), proof(0, 3, bar - 1)], fact(0, 3))
        taken(self, [1, 9], [case(1, 2, 0), proof(0, 3, 9)], fact(0, 3))
        taken(self, [0, 19], [case(1, 20, 0), proof(0, 3, 9), proof(1, 3, 9), proof(2, 3, 1)], fact(0, 3))
        taken(self, [1, 20], [case(1, 20, 0), proof(0, 3, 9), proof(1, 3, 9), proof(2, 3, 2)], fact(0, 3))

    def test_added_up_and_below_0(self):
        before = [case(2, 3, 0), proof(0, 3, 5, 4, -2), proof(3, 3, -9), proof(1, 4, 6)]
        for c in range(2):
            taken(self, [0, -4], before, fact(c, 3))
            taken(self, [1, 4], before, fact(c, 4))
            taken(self, [0, 0], before, fact(c, 5))
        full = [case(1, 1, 0)] + [proof(3, 7, -9)] * 24
        taken(self, [0, -216], full, fact(0, 7))

    def test_a_fact_may_be_proven_that_no_attack_needs(self):
        taken(self, [1, 4], [case(1, 3, 0), attack(0, 0, 1), proof(0, 2, 4)], fact(0, 2))

    def test_by_what_counts_as_to_the_claim(self):
        line = THREE + LATE[:3]
        self.assertEqual([[1, 3], [0, 0]], ask(*line, fact(0, 0), fact(0, 1))[-2:])
        self.assertEqual([[1, 3], [1, 3]], ask(*line, fact(1, 0), fact(1, 1))[-2:])
        self.assertEqual([[0, 2], [0, 0]], ask(*line, fact(2, 0), fact(2, 1))[-2:])
        self.assertEqual([[0, 1], [0, 0]], ask(*line, LATE[3], fact(0, 0), fact(0, 1))[-2:])
        self.assertEqual([[0, 1], [1, 3]], ask(*line, LATE[3], fact(1, 0), fact(1, 1))[-2:])
        self.assertEqual([[0, 2], [0, 0]], ask(*line, LATE[3], fact(2, 0), fact(2, 1))[-2:])

    def test_behind_the_first_decision_and_over(self):
        line = THREE + LATE[:3] + [decide()]
        taken(self, [1, 3], line, fact(0, 0))
        taken(self, [0, 1], line + [LATE[3]], fact(0, 0))
        taken(self, [0, 2], line + [LATE[3]], fact(2, 0))
        taken(self, [0, 1], line + [LATE[3], tick(61), close()], fact(0, 0))
        taken(self, [0, 2], line + [LATE[3], tick(61), close()], fact(2, 0))


class Why(unittest.TestCase):
    def test_none(self):
        taken(self, [0], [case(2, 1, 0)], why(0))
        taken(self, [0], [case(2, 1, 0), attack(0, 0, 1)], why(0))
        taken(self, [0], [case(2, 1, 0), attack(0, 0, 1, 2), proof(0, 1, 1)], why(0))
        taken(self, [0], [case(2, 1, 0), proof(0, 1, 1)], why(0))

    def test_of_its_own_claim_only(self):
        before = [case(3, 1, 0), attack(0, 1, 1), proof(0, 1, 1), attack(2, 2, 1)]
        self.assertEqual([[0], [1, 0], [1, 2]], ask(*before, why(0), why(1), why(2))[-3:])

    def test_the_first_of_several(self):
        before = [case(1, 1, 0), attack(0, 0, 5, 6), attack(0, 0, 2), attack(1, 0, 1), attack(2, 0, 3)]
        taken(self, [1, 2], before + [proof(0, 1, 1)], why(0))
        taken(self, [1, 2], before + [proof(0, 1, 1, 3, 1)], why(0))
        taken(self, [1, 1], before + [proof(0, 1, 1), proof(1, 2, 1)], why(0))
        taken(self, [1, 0], before + [proof(0, 5, 1, 6, 1), proof(1, 2, 1)], why(0))
        taken(self, [1, 3], before + [proof(0, 3, 1, 5, 1)], why(0))

    def test_the_last_piece(self):
        full = [case(1, 1, 0), proof(0, 0, 1)] + [attack(0, 0, 0, 1)] * 22 + [attack(0, 0, 0)]
        taken(self, [1, 23], full, why(0))

    def test_one_that_does_not_count_is_passed_over(self):
        # The attack 1 came late and turned nothing; 2 brings the proof for both, 0 counts alone.
        line = [case(1, 1, 0), attack(0, 0, 2, 3), tick(1), attack(1, 0, 2), proof(0, 2, 1, 3, 1)]
        taken(self, [1, 0], line, why(0))
        # As to this claim the late attack 0 is out: the attack 2, let in behind the proof 1, is the first.
        line = [case(1, 1, 0), proof(0, 5, 1), tick(1), attack(0, 0, 2), attack(1, 0, 5), attack(2, 0, 5)]
        taken(self, [1, 2], line, why(0))

    def test_behind_the_first_decision_and_over(self):
        line = [case(2, 2, 0), attack(0, 0, 2), attack(1, 0, 3), tick(1), decide()]
        taken(self, [0], line, why(0))
        taken(self, [1, 1], line + [proof(0, 3, 2)], why(0))
        # Fact 2 turns nothing any more: the claim is down.
        taken(self, [1, 1], line + [proof(0, 3, 2), proof(0, 2, 2)], why(0))
        taken(self, [0], line + [proof(0, 3, 2), proof(3, 3, -1)], why(0))
        taken(self, [1, 0], line + [proof(0, 2, 2), tick(61), close()], why(0))
        taken(self, [0], line + [proof(0, 2, 2), tick(61), close()], why(1))

    def test_there_is_none_just_where_the_claim_stands(self):
        for cut in range(len(LATE) + 1):
            line = THREE + LATE[:cut]
            standing = last(*line, alive())[0]
            for c in range(3):
                self.assertEqual(standing >> c & 1, 1 - last(*line, why(c))[0])
                self.assertEqual(standing >> c & 1, 1 if last(*line, fewest(c)) == [0] else 0)


class LetIn(unittest.TestCase):
    def told(self, *calls):
        return ask(*calls, let_in(0), let_in(1), let_in(2))[-3:]

    def test_no_pieces(self):
        self.assertEqual([[0], [0], [0]], self.told(case(3, 1, 0)))
        self.assertEqual([[0], [0], [0]], self.told(case(3, 1, 0), tick(1), decide()))

    def test_in_time_all_count_as_to_each_claim(self):
        line = [case(3, 9, 4), attack(0, 0, 0), proof(0, 5, 1), tick(4), attack(2, 2, 1, 2), proof(3, 1, -9)]
        self.assertEqual([[4, 1, 1, 1, 1]] * 3, self.told(*line))

    def test_late_ones_claim_by_claim(self):
        told = [
            [[3, 1, 1, 1], [3, 1, 1, 1], [3, 1, 1, 1]],
            [[4, 1, 1, 1, 1], [4, 1, 1, 1, 0], [4, 1, 1, 1, 0]],
            [[5, 1, 1, 1, 1, 0], [5, 1, 1, 1, 0, 0], [5, 1, 1, 1, 0, 0]],
            [[6, 1, 1, 1, 1, 0, 0], [6, 1, 1, 1, 0, 0, 1], [6, 1, 1, 1, 0, 0, 0]],
            [[7, 1, 1, 1, 1, 0, 0, 1], [7, 1, 1, 1, 0, 0, 1, 1], [7, 1, 1, 1, 0, 0, 0, 0]],
        ]
        for cut in range(len(LATE) + 1):
            self.assertEqual(told[cut], self.told(*THREE, *LATE[:cut]))

    def test_the_same_with_a_decision_between_and_over(self):
        whole = [[7, 1, 1, 1, 1, 0, 0, 1], [7, 1, 1, 1, 0, 0, 1, 1], [7, 1, 1, 1, 0, 0, 0, 0]]
        for cut in range(len(LATE) + 1):
            line = THREE + LATE[:cut] + [decide()] + LATE[cut:]
            self.assertEqual(whole, self.told(*line))
            self.assertEqual(whole, self.told(*line, tick(61), close()))

    def test_what_was_out_at_the_first_decision_stays_out(self):
        # The late 2 turned nothing then; 1 more behind the decision turns nothing without it.
        line = [case(3, 3, 0), attack(0, 0, 0), tick(1), proof(0, 0, 2), decide(), proof(0, 0, 1)]
        self.assertEqual([3, 1, 0, 0], last(*line, let_in(0)))
        self.assertEqual([4, 1, 0, 0, 1], last(*line, proof(0, 0, 3), let_in(0)))

    def test_a_late_attack(self):
        line = [case(3, 1, 0), proof(0, 0, 1), tick(1), attack(0, 1, 0), attack(1, 1, 0), attack(2, 2, 4)]
        self.assertEqual([[4, 1, 0, 0, 0], [4, 1, 1, 0, 0], [4, 1, 0, 0, 0]], self.told(*line))

    def test_24_pieces(self):
        line = [case(3, 1, 0), attack(0, 1, 0), proof(0, 0, 1), tick(1)]
        line += [proof(3, 0, -1), proof(1, 0, 1)] * 11
        self.assertEqual([[24, 1, 1] + [0] * 22, [24] + [1] * 24, [24, 1, 1] + [0] * 22], self.told(*line))

    def test_withdraw_leaves_the_pieces(self):
        line = THREE + LATE[:1] + [decide()]
        kept = self.told(*line, LATE[2])
        self.assertEqual(kept, self.told(*line, appeal(0, 4), LATE[2], [7, 0], [7, 1], [7, 2]))


if __name__ == "__main__":
    unittest.main()
