"""fewest: the fewest facts such that each attack that brings the claim down needs one of them."""

import itertools
import random
import unittest

from tests.helper import attack, case, close, decide, fewest, last, proof, taken, tick

EVERY_FACT = proof(0, *[number for f in range(8) for number in (f, 9)])


def of_attacks(*attacks):
    return last(case(2, 1, 0), EVERY_FACT, *[attack(0, 1, *facts) for facts in attacks], fewest(1))


def by_words(attacks):
    for size in range(9):
        # Combinations of what goes up come in the order of lists.
        for facts in itertools.combinations(range(8), size):
            if all(set(facts) & set(needed) for needed in attacks):
                return [size, *facts]


class Fewest(unittest.TestCase):
    def test_none_if_the_claim_stands(self):
        self.assertEqual([0], of_attacks())
        taken(self, [0], [case(1, 1, 0), attack(0, 0, 1)], fewest(0))
        taken(self, [0], [case(1, 1, 0), attack(0, 0, 1, 2), proof(0, 2, 1)], fewest(0))

    def test_one_fact_is_enough(self):
        for f in range(8):
            self.assertEqual([1, f], of_attacks([f]))
            self.assertEqual([1, f], of_attacks([f], [f], [f]))
        self.assertEqual([1, 3], of_attacks([1, 3], [3, 5]))
        self.assertEqual([1, 7], of_attacks([0, 1, 7], [2, 3, 7], [7], [6, 7]))

    def test_of_one_attack_the_first_fact(self):
        self.assertEqual([1, 2], of_attacks([2, 4, 6]))
        self.assertEqual([1, 6], of_attacks([6, 7]))

    def test_two_facts_are_needed(self):
        self.assertEqual([2, 1, 2], of_attacks([1], [2]))
        self.assertEqual([2, 1, 2], of_attacks([2], [1]))
        self.assertEqual([2, 0, 7], of_attacks([0], [7]))
        self.assertEqual([2, 3, 5], of_attacks([1, 3], [3, 4], [5]))

    def test_three_facts_are_needed(self):
        self.assertEqual([3, 1, 4, 6], of_attacks([6], [4], [1]))
        self.assertEqual([3, 0, 2, 4], of_attacks([0, 1], [2, 3], [4, 5]))
        self.assertEqual([3, 2, 5, 7], of_attacks([0, 2], [1, 2], [5], [6, 7], [3, 4, 7]))

    def test_more_than_three(self):
        self.assertEqual([4, 0, 2, 4, 6], of_attacks([0, 1], [2, 3], [4, 5], [6, 7]))
        self.assertEqual([5, 0, 1, 2, 3, 7], of_attacks([7], [3], [2], [1], [0]))
        self.assertEqual([8, 0, 1, 2, 3, 4, 5, 6, 7], of_attacks(*[[f] for f in range(8)]))
        self.assertEqual([7, 0, 1, 2, 3, 4, 5, 6], of_attacks(*[[f, 7] for f in range(6)], *[[f] for f in range(7)]))

    def test_fewer_go_ahead_of_a_first_list(self):
        # 0 and 1 would come first by their order, but 5 does alone.
        self.assertEqual([1, 5], of_attacks([0, 5], [1, 5]))
        # 0 with 1 and 2, but 6 with 7 are fewer.
        self.assertEqual([2, 6, 7], of_attacks([0, 6], [1, 6], [2, 7], [3, 7]))

    def test_of_as_many_the_first_in_the_order_of_lists(self):
        self.assertEqual([1, 2], of_attacks([2, 3], [2, 3, 4]))
        self.assertEqual([2, 0, 1], of_attacks([0, 1], [0, 2], [1, 2]))
        self.assertEqual([2, 0, 5], of_attacks([0, 3], [4, 5], [5, 6], [0, 7], [3, 5, 7]))
        # {1, 6} and {2, 3} both do: 1 is compared with 2 ahead of anything behind.
        self.assertEqual([2, 1, 6], of_attacks([1, 2], [1, 3], [2, 6], [3, 6]))
        self.assertEqual([2, 0, 7], of_attacks([0, 1], [0, 2], [1, 7], [2, 7]))
        # The first fact alike, the second decides.
        self.assertEqual([2, 0, 3], of_attacks([0], [3, 4]))

    def test_taking_the_most_needed_fact_first_would_be_wrong(self):
        # Fact 0 is needed by most, yet {1, 2, 3} without it are the fewest.
        attacks = ([0, 1, 4], [0, 2, 5], [0, 3, 6], [0, 1], [1, 7], [2, 7, 5], [2], [3], [1])
        self.assertEqual([3, 1, 2, 3], of_attacks(*attacks))

    def test_only_attacks_all_of_whose_facts_are_proven(self):
        before = [case(1, 2, 0), attack(0, 0, 0, 1), attack(1, 0, 2), attack(2, 0, 3, 4)]
        taken(self, [1, 2], before + [proof(0, 0, 2, 2, 2, 3, 2)], fewest(0))
        taken(self, [2, 0, 2], before + [proof(0, 0, 2, 1, 2, 2, 2, 3, 2)], fewest(0))
        taken(self, [3, 0, 2, 3], before + [proof(0, 0, 2, 1, 2, 2, 2, 3, 2, 4, 2)], fewest(0))
        taken(self, [1, 3], before + [proof(0, 0, 2, 1, 1, 2, 1, 3, 2, 4, 2)], fewest(0))

    def test_only_attacks_on_the_claim(self):
        before = [case(2, 1, 0), EVERY_FACT, attack(0, 0, 1), attack(0, 1, 2), attack(0, 1, 3)]
        taken(self, [1, 1], before, fewest(0))
        taken(self, [2, 2, 3], before, fewest(1))

    def test_only_attacks_that_count(self):
        before = [case(2, 1, 0), EVERY_FACT, attack(0, 0, 4), tick(1)]
        # Late, and the claim is down already: it turns nothing.
        taken(self, [1, 4], before + [attack(0, 0, 5)], fewest(0))
        # As to claim 1 the first late one turns its fate, the second doesn't.
        taken(self, [1, 6], before + [attack(0, 1, 6), attack(0, 1, 7)], fewest(1))
        decided = before + [decide(), attack(0, 0, 5), attack(0, 1, 2, 3), attack(0, 1, 1)]
        taken(self, [1, 4], decided, fewest(0))
        taken(self, [1, 2], decided, fewest(1))
        taken(self, [1, 2], decided + [tick(61), close()], fewest(1))

    def test_22_attacks(self):
        triples = [list(facts) for facts in itertools.combinations(range(8), 3)]
        self.assertEqual(by_words(triples[:22]), of_attacks(*triples[:22]))
        self.assertEqual(by_words(triples[-22:]), of_attacks(*triples[-22:]))

    def test_against_the_words(self):
        chance = random.Random(12)
        sizes = set()
        for turn in range(1500):
            most = chance.choice((3, 5, 8))
            attacks = [
                sorted(chance.sample(range(most), chance.choice((1, 2, 2, 3, 3))))
                for made in range(chance.choice((1, 2, 3, 5, 8, 14, 23)))
            ]
            with self.subTest(attacks=attacks):
                self.assertEqual(by_words(attacks), of_attacks(*attacks))
            sizes.add(by_words(attacks)[0])
        self.assertLessEqual({1, 2, 3, 4, 5, 6}, sizes)


if __name__ == "__main__":
    unittest.main()
