"""Each number and each row at its edges, one beyond them, and far beyond them."""

import unittest

from tests.helper import (
    HIGHEST, LOWEST, PHASES, alive, appeal, ask, attack, case, days, decide, fact, fewest, last, let_in, piece, proof,
    refused, request, taken, tick, why, withdraw, without,
)

# For each whole number of a call: the call with it, its lowest and its highest value.
NUMBERS = [
    (lambda x: case(x, 1, 0), 1, 6),
    (lambda x: case(1, x, 0), 1, 20),
    (lambda x: case(1, 1, x), 0, 365),
    (lambda x: attack(x, 0, 1), 0, 2),
    (lambda x: attack(0, x, 1), 0, 5),
    (lambda x: attack(0, 0, x), 0, 7),
    (lambda x: attack(0, 0, x, 7), 0, 6),
    (lambda x: attack(0, 0, 0, x), 1, 7),
    (lambda x: attack(0, 0, 2, x, 4), 3, 3),
    (lambda x: attack(0, 0, 0, 5, x), 6, 7),
    (lambda x: proof(x, 0, 1), 0, 3),
    (lambda x: proof(0, x, 1), 0, 7),
    (lambda x: proof(0, 3, 1, x, 1), 4, 7),
    (lambda x: proof(0, 0, x), -9, 9),
    (lambda x: proof(0, 0, 1, 7, x), -9, 9),
    (lambda x: request(x), 1, 63),
    (lambda x: tick(x), 1, 365),
    (lambda x: appeal(x, 1), 0, 3),
    (lambda x: appeal(0, x), 1, 63),
    (lambda x: appeal(3, x), 1, 63),
    (lambda x: withdraw(x), 0, 2),
    (lambda x: fact(x, 0), 0, 5),
    (lambda x: fact(0, x), 0, 7),
    (lambda x: why(x), 0, 5),
    (lambda x: fewest(x), 0, 5),
    (lambda x: without(x), 0, 23),
    (lambda x: let_in(x), 0, 5),
    (lambda x: piece(x), 0, 23),
]

ROWS = [
    attack(0, 0),
    attack(0, 0, 0, 1, 2, 3),
    attack(0, 0, 0, 1, 2, 3, 4, 5, 6, 7),
    attack(0, 0, *range(20)),
    attack(0, 0, 1, 1),
    attack(0, 0, 0, 4, 4),
    attack(0, 0, 2, 1),
    attack(0, 0, 0, 2, 1),
    attack(0, 0, 3, 2, 5),
    attack(0, 0, LOWEST, HIGHEST),
    attack(0, 0, 0, HIGHEST),
    proof(0),
    proof(0, 1),
    proof(0, 1, 2, 3),
    proof(0, 0, 1, 1, 1, 2),
    proof(0, 1, 2, 1, 2),
    proof(0, 2, 1, 1, 1),
    proof(0, 0, 1, 2, 1, 1, 1),
    proof(0, 0, 0),
    proof(0, 0, 1, 1, 0),
    proof(0, 0, 0, 1, 1),
    proof(0, 0, -10, 1, 1),
    proof(0, 0, 10, 1, 1),
    proof(0, LOWEST, 1),
    proof(0, 0, LOWEST),
    proof(0, 0, HIGHEST),
    proof(0, *[number for fact in range(9) for number in (fact, 1)]),
    proof(0, *[number for fact in range(10) for number in (fact, 1)]),
    proof(0, *[number for fact in range(9) for number in (fact, 1)], 9),
]

# All six claims fall, so nothing is kept; and no claim does, so all six are kept.
ALL_FALL = [case(6, 1, 0)] + [attack(0, claim, 0) for claim in range(6)] + [proof(0, 0, 1), tick(1), decide()]
ALL_KEPT = [case(6, 1, 0), tick(1), decide()]


class Beyond(unittest.TestCase):
    def test_a_number_beyond_its_range_is_refused_in_each_phase(self):
        for call, low, high in NUMBERS:
            for value in (low - 1, high + 1, LOWEST, HIGHEST):
                for before in PHASES:
                    refused(self, -1, before, call(value))

    def test_a_weight_of_0_is_refused(self):
        for before in PHASES:
            refused(self, -1, before, proof(0, 0, 0))

    def test_a_row_that_is_not_as_told_is_refused_in_each_phase(self):
        for call in ROWS:
            for before in PHASES:
                refused(self, -1, before, call)


class Within(unittest.TestCase):
    def test_case(self):
        for n in range(1, 7):
            taken(self, [0], [], case(n, 1, 0))
            taken(self, [2 ** n - 1], [case(n, 1, 0)], alive())

    def test_bar(self):
        self.assertEqual([1], last(case(1, 1, 0), attack(0, 0, 0), alive()))
        self.assertEqual([0], last(case(1, 1, 0), attack(0, 0, 0), proof(0, 0, 1), alive()))
        before = [case(1, 20, 0), attack(0, 0, 0), proof(0, 0, 9), proof(1, 0, 9)]
        self.assertEqual([1], last(*before, proof(2, 0, 1), alive()))
        self.assertEqual([0], last(*before, proof(2, 0, 2), alive()))

    def test_limit(self):
        for limit in (0, 1, 364, 365):
            before = [case(1, 1, limit)] + days(limit)
            taken(self, [-6], before, decide())
            taken(self, [1, 0], before + [tick(1)], decide())

    def test_attack(self):
        for o in range(3):
            taken(self, [0], [case(6, 1, 0)], attack(o, 0, 1))
        for c in range(6):
            self.assertEqual(
                [63 - 2 ** c], last(case(6, 1, 0), attack(0, c, 1), proof(0, 1, 1), alive()))
        for facts in ((0,), (7,), (0, 7), (0, 1), (6, 7), (0, 1, 2), (5, 6, 7), (0, 3, 7)):
            taken(self, [0], [case(1, 1, 0)], attack(0, 0, *facts))

    def test_each_fact_of_an_attack_is_needed(self):
        before = [case(1, 1, 0), attack(0, 0, 0, 4, 7)]
        self.assertEqual([1], last(*before, proof(0, 0, 1, 4, 1), alive()))
        self.assertEqual([1], last(*before, proof(0, 0, 1, 7, 1), alive()))
        self.assertEqual([1], last(*before, proof(0, 4, 1, 7, 1), alive()))
        self.assertEqual([0], last(*before, proof(0, 0, 1, 4, 1, 7, 1), alive()))

    def test_proof(self):
        for p in range(4):
            taken(self, [0], [case(1, 1, 0)], proof(p, 0, 1))
        for weight in (-9, -1, 1, 9):
            taken(self, [0], [case(1, 1, 0)], proof(0, 0, weight))
            taken(self, [0], [case(1, 1, 0)], proof(0, 0, weight, 7, -weight))
        every = [number for fact in range(8) for number in (fact, 9)]
        self.assertEqual([[0], [0], [1], [0]], ask(case(1, 9, 0), attack(0, 0, 0, 7), proof(3, *every), alive()))

    def test_how_much_is_told_for_its_own_fact(self):
        before = [case(3, 5, 0), attack(0, 0, 0), attack(0, 1, 3), attack(0, 2, 7)]
        self.assertEqual([5], last(*before, proof(0, 0, 4, 3, 5, 7, -9), alive()))
        self.assertEqual([2], last(*before, proof(0, 0, 5, 3, 4, 7, 9), alive()))

    def test_request(self):
        for m in range(1, 64):
            taken(self, [1], [case(6, 1, 0)], request(m))

    def test_tick(self):
        for n in (1, 2, 364, 365):
            taken(self, [n], [case(1, 1, 0)], tick(n))
            taken(self, [2 * n], [case(1, 1, 0), tick(n)], tick(n))

    def test_appeal(self):
        for m in range(1, 64):
            for o in range(3):
                taken(self, [0], ALL_KEPT, appeal(o, m))
            taken(self, [0], ALL_FALL, appeal(3, m))

    def test_withdraw(self):
        for o in range(3):
            taken(self, [0], ALL_KEPT, withdraw(o))
            taken(self, [1], ALL_KEPT + [appeal(o, 1)], withdraw(o))

    def test_the_claim_that_is_asked_of(self):
        down = [case(6, 2, 0)] + [attack(0, c, c) for c in range(6)] + [proof(0, 0, 1, 5, 2)]
        for c in range(5):
            taken(self, [0], down, why(c))
            taken(self, [0], down, fewest(c))
        taken(self, [1, 5], down, why(5))
        taken(self, [1, 5], down, fewest(5))
        for c in range(6):
            taken(self, [7, 1, 1, 1, 1, 1, 1, 1], down, let_in(c))

    def test_the_fact_that_is_asked_of(self):
        every = [number for f in range(8) for number in (f, f - 9)]
        for f in range(8):
            taken(self, [0, f - 9], [case(1, 1, 0), proof(0, *every)], fact(0, f))

    def test_the_piece_that_is_asked_of(self):
        full = [case(1, 20, 0)] + [proof(i % 4, i % 8, i % 9 + 1) for i in range(24)]
        for i in range(24):
            taken(self, [i % 4, 0, 1, i % 8, i % 9 + 1], full, piece(i))
            taken(self, [1], full, without(i))


if __name__ == "__main__":
    unittest.main()
