import unittest

from oppositions.board import answers
from tests.helper import alive, appeal, ask, attack, case, close, decide, let_in, proof, request, tick, would


class Example(unittest.TestCase):
    def test_the_documents_example(self):
        told = ask(
            case(2, 3, 10), attack(0, 0, 1), proof(0, 1, 3), alive(), request(2), tick(11), proof(3, 1, -1),
            alive(), proof(1, 2, 5), let_in(0), decide(), appeal(0, 1), proof(0, 1, 1), would(), tick(61), close(),
        )
        self.assertEqual(
            [[0], [0], [1], [2], [1], [11], [2], [3], [3], [4, 1, 1, 1, 0], [3, 0], [0], [4], [2], [72], [2]], told)

    def test_the_example_as_it_stands_in_the_list(self):
        calls = [0, 2, 3, 10, 1, 0, 0, 1, 1, 2, 0, 2, 1, 3, 9, 3, 2, 4, 11, 2, 3, 2, 1, -1, 9, 2, 1, 2, 2, 5, 14, 0, 5,
                 6, 0, 1, 2, 0, 2, 1, 1, 19, 4, 61, 8]
        self.assertEqual(
            [1, 0, 1, 0, 1, 1, 1, 2, 1, 1, 1, 11, 1, 2, 1, 3, 1, 3, 5, 4, 1, 1, 1, 0, 2, 3, 0, 1, 0, 1, 4, 1, 2,
             1, 72, 1, 2],
            answers(calls),
        )


if __name__ == "__main__":
    unittest.main()
