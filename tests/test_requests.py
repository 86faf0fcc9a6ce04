"""Requests, and what the first decision keeps."""

import unittest

from tests.helper import alive, ask, attack, case, decide, last, proof, request, tick

# Claims 0 and 2 of four are down: 1 and 3 stand.
DOWN = [case(4, 1, 0), attack(0, 0, 0), attack(1, 2, 1), proof(0, 0, 1, 1, 1)]


class Decision(unittest.TestCase):
    def decided(self, *requests):
        return last(*DOWN, *[request(m) for m in requests], tick(1), decide())

    def test_all_claims_are_the_first_request(self):
        for n in range(1, 7):
            self.assertEqual([2 ** n - 1, 0], last(case(n, 1, 0), tick(1), decide()))

    def test_the_first_request_whose_claims_all_stand(self):
        self.assertEqual([10, 1], self.decided(10))
        self.assertEqual([2, 1], self.decided(2, 10, 8))
        self.assertEqual([8, 2], self.decided(1, 8, 2, 10))
        self.assertEqual([10, 3], self.decided(14, 11, 10, 2))
        self.assertEqual([8, 5], self.decided(1, 3, 6, 12, 8))

    def test_the_first_one_is_kept_though_a_later_one_is_larger(self):
        self.assertEqual([2, 1], self.decided(2, 10))

    def test_none_whose_claims_all_stand(self):
        self.assertEqual([0, 1], self.decided())
        self.assertEqual([0, 2], self.decided(1))
        self.assertEqual([0, 6], self.decided(1, 3, 4, 5, 6))

    def test_all_claims_ahead_of_fewer(self):
        self.assertEqual([3, 0], last(case(2, 1, 0), request(1), request(2), tick(1), decide()))

    def test_all_claims_may_be_asked_for_again(self):
        self.assertEqual([0, 2], self.decided(15))
        self.assertEqual([10, 2], self.decided(15, 10))

    def test_requests_are_counted_from_the_first(self):
        line = DOWN + [request(1), request(2), request(2), request(15), request(8)]
        self.assertEqual([[1], [2], [3], [4], [5]], ask(*line)[-5:])

    def test_a_request_may_come_behind_the_limit(self):
        self.assertEqual([8, 1], last(*DOWN, tick(1), request(8), decide()))

    def test_late_pieces_that_are_let_in_turn_the_decision(self):
        line = DOWN + [request(10), tick(1)]
        self.assertEqual([10, 1], last(*line, decide()))
        self.assertEqual([15, 0], last(*line, proof(3, 0, -1), proof(3, 1, -1), decide()))
        self.assertEqual([0, 2], last(*line, attack(2, 3, 1), decide()))

    def test_what_is_kept_stays_though_a_claim_falls_since(self):
        line = [case(1, 1, 0), attack(0, 0, 0), tick(1), decide(), proof(0, 0, 1), alive(), tick(61), [8]]
        self.assertEqual([[0], [0], [1], [1, 0], [1], [0], [62], [1]], ask(*line))


if __name__ == "__main__":
    unittest.main()
