"""Appeals, withdraw, and the outcome at close."""

import unittest

from tests.helper import alive, appeal, ask, attack, case, close, decide, last, proof, request, tick, withdraw

# Of four claims 0 and 1 are kept, 2 and 3 have fallen; each hangs on the fact of its own number, bar 2.
FOUR = (
    [case(4, 2, 0)] + [attack(0, claim, claim) for claim in range(4)]
    + [proof(0, 2, 2, 3, 2), request(3), tick(1), decide()]
)
ALL_TURN = [proof(1, 0, 2), proof(1, 1, 2), proof(3, 2, -1), proof(3, 3, -1)]


def outcome(*calls):
    return last(*FOUR, *calls, tick(61), close())


class Outcome(unittest.TestCase):
    def test_the_case(self):
        self.assertEqual([3, 1], last(*FOUR))
        self.assertEqual([12], last(*FOUR, *ALL_TURN, alive()))

    def test_without_appeals_what_is_kept_stays(self):
        self.assertEqual([3], outcome())
        self.assertEqual([3], outcome(*ALL_TURN))

    def test_a_kept_claim_falls_only_where_an_opponents_appeal_names_it(self):
        for o in range(3):
            self.assertEqual([2], outcome(appeal(o, 1), *ALL_TURN))
            self.assertEqual([1], outcome(appeal(o, 2), *ALL_TURN))
            self.assertEqual([0], outcome(appeal(o, 3), *ALL_TURN))

    def test_a_named_claim_that_stands_is_kept(self):
        self.assertEqual([3], outcome(appeal(0, 3)))
        self.assertEqual([1], outcome(appeal(0, 3), proof(1, 1, 2)))

    def test_a_fallen_claim_comes_back_only_where_the_owners_appeal_names_it(self):
        self.assertEqual([7], outcome(appeal(3, 4), *ALL_TURN))
        self.assertEqual([11], outcome(appeal(3, 8), *ALL_TURN))
        self.assertEqual([15], outcome(appeal(3, 12), *ALL_TURN))

    def test_a_named_claim_that_does_not_stand_does_not_come_back(self):
        self.assertEqual([3], outcome(appeal(3, 12)))
        self.assertEqual([7], outcome(appeal(3, 12), proof(3, 2, -1)))

    def test_appeals_of_both(self):
        self.assertEqual([6], outcome(appeal(0, 1), appeal(3, 4), *ALL_TURN))
        self.assertEqual([6], outcome(appeal(3, 4), appeal(0, 1), *ALL_TURN))
        self.assertEqual([12], outcome(appeal(3, 8), appeal(1, 2), appeal(2, 1), appeal(3, 4), *ALL_TURN))

    def test_one_claim_named_more_than_once(self):
        self.assertEqual([2], outcome(appeal(0, 1), appeal(1, 1), appeal(0, 1), *ALL_TURN))
        self.assertEqual([7], outcome(appeal(3, 4), appeal(3, 4), *ALL_TURN))

    def test_a_claim_that_stood_but_was_not_asked_for_comes_back(self):
        line = [case(2, 1, 0), attack(0, 0, 0), proof(0, 0, 1), tick(1)]
        self.assertEqual([2], last(*line, alive()))
        none = line + [decide()]
        self.assertEqual([0, 1], last(*none))
        self.assertEqual([2], last(*none, appeal(3, 3), tick(61), close()))
        self.assertEqual([0], last(*none, tick(61), close()))

    def test_pieces_brought_behind_the_time_to_appeal_count_too(self):
        self.assertEqual([2], last(*FOUR, appeal(0, 1), tick(61), proof(1, 0, 2), close()))

    def test_the_outcome_is_fixed_at_close(self):
        told = ask(*FOUR, appeal(0, 1), *ALL_TURN, tick(61), close(), proof(3, 0, -9), close(), alive())
        self.assertEqual([[2], [-6], [-6], [12]], told[-4:])


class Counting(unittest.TestCase):
    def test_an_appeal_answers_how_many_there_were(self):
        line = FOUR + [appeal(0, 1), appeal(3, 4), appeal(2, 3), appeal(0, 1)]
        self.assertEqual([[0], [1], [2], [3]], ask(*line)[-4:])

    def test_all_days_to_appeal(self):
        line = FOUR + [appeal(0, 1), tick(60), appeal(1, 2), tick(1), appeal(2, 1), close()]
        self.assertEqual([[0], [61], [1], [62], [-6], [3]], ask(*line)[-6:])


class Withdraw(unittest.TestCase):
    MADE = [appeal(0, 1), appeal(1, 1), appeal(0, 2), appeal(3, 4), appeal(1, 3), appeal(0, 3)]

    def test_answers_how_many_were_taken_out(self):
        self.assertEqual([3], last(*FOUR, *self.MADE, withdraw(0)))
        self.assertEqual([2], last(*FOUR, *self.MADE, withdraw(1)))
        self.assertEqual([0], last(*FOUR, *self.MADE, withdraw(2)))
        self.assertEqual([0], last(*FOUR, *self.MADE, withdraw(0), withdraw(0)))

    def test_those_behind_are_called_by_fewer(self):
        self.assertEqual([6], last(*FOUR, *self.MADE, appeal(2, 1)))
        self.assertEqual([3], last(*FOUR, *self.MADE, withdraw(0), appeal(2, 1)))
        self.assertEqual([1], last(*FOUR, *self.MADE, withdraw(0), withdraw(1), appeal(2, 1)))

    def test_the_opponents_appeals_are_gone(self):
        self.assertEqual([3], outcome(appeal(0, 3), *ALL_TURN, withdraw(0)))
        self.assertEqual([2], outcome(appeal(0, 3), appeal(1, 1), *ALL_TURN, withdraw(0)))
        self.assertEqual([0], outcome(appeal(0, 3), appeal(1, 1), *ALL_TURN, withdraw(1)))
        self.assertEqual([0], outcome(appeal(0, 3), *ALL_TURN, withdraw(1), withdraw(2)))

    def test_the_owners_appeals_stay(self):
        self.assertEqual([15], outcome(appeal(3, 12), *ALL_TURN, withdraw(0), withdraw(1), withdraw(2)))

    def test_its_pieces_stay(self):
        line = FOUR + [appeal(1, 3)] + ALL_TURN + [withdraw(0), withdraw(1)]
        self.assertEqual([12], last(*line, alive()))
        self.assertEqual([9], last(*line, proof(0, 7, 1)))
        self.assertEqual([2], outcome(*ALL_TURN, appeal(0, 1), withdraw(1)))

    def test_its_pieces_stay_ahead_of_the_decision(self):
        self.assertEqual([0], last(case(1, 1, 0), attack(0, 0, 0), proof(0, 0, 1), withdraw(0), alive()))

    def test_it_may_appeal_anew(self):
        self.assertEqual([2], outcome(appeal(0, 2), *ALL_TURN, withdraw(0), appeal(0, 1)))

    def test_behind_the_days_to_appeal(self):
        told = ask(*FOUR, appeal(0, 3), *ALL_TURN, tick(61), withdraw(0), appeal(0, 1), close())
        self.assertEqual([[1], [-6], [3]], told[-3:])


if __name__ == "__main__":
    unittest.main()
