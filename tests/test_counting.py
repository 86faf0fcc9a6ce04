"""Facts proven, claims that stand, and late pieces let in claim by claim."""

import unittest

from tests.helper import alive, appeal, ask, attack, case, close, decide, last, proof, tick


class Standing(unittest.TestCase):
    def test_a_claim_stands_without_an_attack(self):
        self.assertEqual([7], last(case(3, 1, 0), alive()))
        self.assertEqual([7], last(case(3, 1, 0), proof(0, 0, 9), alive()))

    def test_an_attack_needs_proof(self):
        self.assertEqual([7], last(case(3, 1, 0), attack(0, 1, 0), alive()))

    def test_proof_may_come_ahead_of_the_attack(self):
        self.assertEqual([5], last(case(3, 3, 0), proof(0, 0, 3), attack(0, 1, 0), alive()))
        self.assertEqual([5], last(case(3, 3, 0), attack(0, 1, 0), proof(0, 0, 3), alive()))

    def test_the_bar_itself_is_enough(self):
        before = [case(1, 5, 0), attack(0, 0, 2)]
        self.assertEqual([1], last(*before, proof(0, 2, 4), alive()))
        self.assertEqual([0], last(*before, proof(0, 2, 5), alive()))
        self.assertEqual([0], last(*before, proof(0, 2, 6), alive()))

    def test_proof_of_all_is_added_up(self):
        before = [case(1, 5, 0), attack(0, 0, 2), proof(0, 2, 2), proof(1, 2, 2)]
        self.assertEqual([1], last(*before, alive()))
        self.assertEqual([0], last(*before, proof(3, 2, 1), alive()))
        self.assertEqual([1], last(*before, proof(2, 2, 9), proof(3, 2, -9), alive()))

    def test_proof_is_by_fact(self):
        before = [case(1, 2, 0), attack(0, 0, 2)]
        self.assertEqual([1], last(*before, proof(0, 1, 9, 3, 9), alive()))

    def test_one_attack_with_all_its_facts_is_enough(self):
        before = [case(1, 1, 0), attack(0, 0, 1, 2), attack(1, 0, 3)]
        self.assertEqual([1], last(*before, proof(0, 1, 1), alive()))
        self.assertEqual([0], last(*before, proof(0, 1, 1, 2, 1), alive()))
        self.assertEqual([0], last(*before, proof(0, 3, 1), alive()))

    def test_an_attack_is_on_its_own_claim_only(self):
        line = [case(6, 1, 0), proof(0, 0, 1)]
        for claim in (4, 0, 5):
            line.append(attack(0, claim, 0))
        self.assertEqual([63 - 16 - 1 - 32], last(*line, alive()))


class Late(unittest.TestCase):
    def test_on_the_limits_day_a_piece_is_in_time(self):
        # -9 turns nothing as it comes: it weighs against the later proof only if it counts.
        in_time = [case(1, 1, 5), attack(0, 0, 0), tick(5), proof(3, 0, -9), proof(0, 0, 9), alive()]
        self.assertEqual([1], last(*in_time))

    def test_behind_the_limits_day_it_is_late(self):
        late = [case(1, 1, 5), attack(0, 0, 0), tick(6), proof(3, 0, -9), proof(0, 0, 9), alive()]
        self.assertEqual([0], last(*late))

    def test_with_limit_0_day_0_is_in_time(self):
        line = [case(1, 1, 0), attack(0, 0, 0), proof(3, 0, -9)]
        self.assertEqual([1], last(*line, proof(0, 0, 9), alive()))
        self.assertEqual([1], last(*line, tick(1), proof(0, 0, 9), alive()))
        self.assertEqual([0], last(case(1, 1, 0), attack(0, 0, 0), tick(1), proof(3, 0, -9), proof(0, 0, 9), alive()))

    def test_a_late_piece_that_brings_the_claim_down_is_let_in(self):
        self.assertEqual([0], last(case(1, 1, 0), attack(0, 0, 0), tick(1), proof(0, 0, 1), alive()))
        self.assertEqual([0], last(case(1, 1, 0), proof(0, 0, 1), tick(1), attack(0, 0, 0), alive()))

    def test_a_late_piece_that_saves_the_claim_is_let_in(self):
        down = [case(1, 2, 0), attack(0, 0, 0), proof(0, 0, 2), tick(1)]
        self.assertEqual([0], last(*down, alive()))
        self.assertEqual([1], last(*down, proof(3, 0, -1), alive()))

    def test_late_pieces_that_turn_nothing_do_not_add_up(self):
        line = [case(1, 4, 0), attack(0, 0, 0), tick(1)] + [proof(0, 0, 3)] * 5
        self.assertEqual([1], last(*line, alive()))
        self.assertEqual([0], last(*line, proof(0, 0, 4), alive()))

    def test_a_late_attack_is_not_kept_in_store(self):
        line = [case(1, 1, 0), tick(1), attack(0, 0, 0), proof(0, 0, 9)]
        self.assertEqual([1], last(*line, alive()))
        # Behind the proof it turns nothing either, as that proof was not let in.
        self.assertEqual([1], last(*line, attack(0, 0, 0), alive()))

    def test_late_pieces_count_in_the_order_in_which_they_came(self):
        before = [case(1, 3, 0), attack(0, 0, 0), proof(0, 0, 1), tick(1)]
        # 1 and 2 bring it down; then -1 saves it; then 1 brings it down again.
        line = [proof(0, 0, 2), alive(), proof(3, 0, -1), alive(), proof(1, 0, 1), alive()]
        self.assertEqual([[2], [0], [3], [1], [4], [0]], ask(*before, *line)[4:])
        # -1 first turns nothing and is out: then 2 is enough, and 1 more turns nothing.
        self.assertEqual([0], last(*before, proof(3, 0, -1), proof(0, 0, 2), proof(1, 0, 1), alive()))
        # The 1 was out, so -1 against 3 saves the claim.
        self.assertEqual(
            [1], last(*before, proof(3, 0, -1), proof(0, 0, 2), proof(1, 0, 1), proof(3, 0, -1), alive()))

    def test_let_in_claim_by_claim(self):
        # Fact 0 has 2 of 3. Claim 0 is attacked on it, claim 1 on it and on fact 1, claim 2 not at all.
        before = [case(3, 3, 0), attack(0, 0, 0), attack(0, 1, 0, 1), proof(0, 0, 2), tick(1)]
        self.assertEqual([6], last(*before, proof(0, 0, 1), alive()))
        # As to claim 1 that late proof was not let in: fact 1 alone doesn't bring it down now.
        self.assertEqual([6], last(*before, proof(0, 0, 1), proof(0, 1, 3), alive()))
        # Both facts in one piece turn it.
        self.assertEqual([4], last(*before, proof(0, 0, 1), proof(0, 0, 1, 1, 3), alive()))

    def test_one_piece_may_save_one_claim_and_bring_down_another(self):
        before = [case(2, 2, 0), attack(0, 0, 0), attack(1, 1, 1), proof(0, 0, 2), tick(1)]
        self.assertEqual([2], last(*before, alive()))
        self.assertEqual([1], last(*before, proof(2, 0, -1, 1, 2), alive()))

    def test_in_time_pieces_all_count(self):
        line = [case(1, 4, 5), attack(0, 0, 0)] + [proof(0, 0, 1)] * 3
        self.assertEqual([1], last(*line, alive()))
        self.assertEqual([0], last(*line, proof(0, 0, 1), alive()))


class BehindTheFirstDecision(unittest.TestCase):
    def test_pieces_that_came_since_are_let_in_likewise(self):
        decided = [case(2, 3, 0), attack(0, 0, 0), proof(0, 0, 2), tick(1), decide()]
        self.assertEqual([3], last(*decided, alive()))
        self.assertEqual([2], last(*decided, proof(0, 0, 1), alive()))
        self.assertEqual([3], last(*decided, proof(3, 0, -1), alive()))
        self.assertEqual([2], last(*decided, proof(3, 0, -1), proof(0, 0, 1), alive()))
        self.assertEqual([3], last(*decided, proof(0, 0, 1), proof(3, 0, -1), alive()))

    def test_attacks_since_are_let_in_too(self):
        decided = [case(2, 3, 0), proof(0, 0, 3), tick(1), decide()]
        self.assertEqual([1], last(*decided, attack(0, 1, 0), alive()))
        self.assertEqual([3], last(*decided, attack(0, 1, 0, 1), proof(0, 1, 3), alive()))

    def test_what_was_not_let_in_at_the_first_decision_stays_out(self):
        # The late 2 turned nothing. Behind the decision 1 more would do with it, and doesn't without.
        line = [case(1, 3, 0), attack(0, 0, 0), tick(1), proof(0, 0, 2), decide(), proof(0, 0, 1), alive()]
        self.assertEqual([1], last(*line))

    def test_what_was_let_in_at_the_first_decision_stays_in(self):
        line = [case(1, 3, 0), attack(0, 0, 0), proof(0, 0, 3), tick(1), proof(3, 0, -1), decide()]
        self.assertEqual([1, 0], last(*line))
        self.assertEqual([1], last(*line, alive()))
        # 2 are left of the 3, so 1 more brings it down; and it stands again by another -1.
        self.assertEqual([0], last(*line, proof(0, 0, 1), alive()))
        self.assertEqual([1], last(*line, proof(0, 0, 1), proof(3, 0, -1), alive()))

    def test_what_counted_stays_counted_though_later_pieces_turn_the_claim(self):
        line = [
            case(1, 2, 0), attack(0, 0, 0), tick(1), proof(0, 0, 2), decide(), proof(3, 0, -2), alive(),
            proof(1, 0, 2), alive(), proof(3, 0, -1), alive(),
        ]
        self.assertEqual([[0], [0], [1], [1], [0, 1], [2], [1], [3], [0], [4], [1]], ask(*line))

    def test_the_same_with_and_without_a_decision_between(self):
        pieces = [proof(0, 0, 2), proof(0, 0, 1), attack(1, 1, 0), proof(3, 0, -2), proof(2, 0, 3), attack(0, 0, 0)]
        first = [case(2, 3, 0), attack(0, 0, 0), tick(1)]
        plain = ask(*first, *[call for piece in pieces for call in (piece, alive())])
        for cut in range(len(pieces) + 1):
            line = [call for piece in pieces for call in (piece, alive())]
            line.insert(2 * cut, decide())
            told = ask(*first, *line)
            self.assertEqual(plain, told[:3 + 2 * cut] + told[4 + 2 * cut:])

    def test_of_a_case_that_is_over(self):
        line = [
            case(2, 3, 0), attack(0, 0, 0), proof(0, 0, 2), tick(1), decide(), appeal(0, 1), proof(0, 0, 1), tick(61),
            close(),
        ]
        self.assertEqual([2], last(*line))
        self.assertEqual([2], last(*line, alive()))
        # Claim 0 is down but nobody named it: it's kept, and yet doesn't stand.
        unnamed = [call for call in line if call != appeal(0, 1)]
        self.assertEqual([3], last(*unnamed))
        self.assertEqual([2], last(*unnamed, alive()))


if __name__ == "__main__":
    unittest.main()
