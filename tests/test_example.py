import unittest

from tests.helper import alive, appeal, ask, attack, case, close, decide, proof, request, tick
from oppositions.board import answers


class Example(unittest.TestCase):
    def test_the_documents_example(self):
        told = ask(
            case(2, 3, 10), attack(0, 0, 1), proof(0, 1, 3), alive(), request(2), tick(11), proof(3, 1, -1),
            alive(), proof(1, 2, 5), decide(), appeal(0, 1), proof(0, 1, 1), tick(61), close(),
        )
        self.assertEqual([[0], [0], [1], [2], [1], [11], [2], [3], [3], [3, 0], [0], [4], [72], [2]], told)

    def test_the_example_as_it_stands_in_the_list(self):
        calls = [0, 2, 3, 10, 1, 0, 0, 1, 1, 2, 0, 2, 1, 3, 9, 3, 2, 4, 11, 2, 3, 2, 1, -1, 9, 2, 1, 2, 2, 5, 5,
                 6, 0, 1, 2, 0, 2, 1, 1, 4, 61, 8]
        self.assertEqual(
            [1, 0, 1, 0, 1, 1, 1, 2, 1, 1, 1, 11, 1, 2, 1, 3, 1, 3, 2, 3, 0, 1, 0, 1, 4, 1, 72, 1, 2],
            answers(calls),
        )


if __name__ == "__main__":
    unittest.main()
