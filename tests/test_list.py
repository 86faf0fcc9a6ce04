"""The one list that is handed in, and the one that is given back."""

import unittest

from oppositions.board import answers
from oppositions.shapes import split_calls
from tests.helper import (
    HIGHEST, LOWEST, PHASE_1, PHASE_2, PHASE_3, PHASES, QUESTIONS, alive, appeal, ask, attack, case, close, decide,
    fewest, piece, proof, request, requests, tick, withdraw, without,
)


class Untouched(list):
    """A list that fails as soon as something would change it."""

    def fail(self, *arguments, **keywords):
        raise AssertionError("the list handed in was to be changed")

    append = extend = insert = pop = remove = clear = sort = reverse = fail
    __setitem__ = __delitem__ = __iadd__ = __imul__ = fail


def whole_line():
    """Each of the twenty calls, the questions in each phase."""
    line = QUESTIONS + PHASE_1
    for rest in (PHASE_2[len(PHASE_1):], PHASE_3[len(PHASE_2):-1] + [withdraw(1)], PHASE_3[-1:]):
        line = line + QUESTIONS + rest
    line = line + QUESTIONS
    assert {call[0] for call in line} == set(range(20)) and len(line) <= 400
    return [number for call in line for number in call]


class Reading(unittest.TestCase):
    def parts(self, numbers):
        return [(call.number, call.arguments, call.row) for call in split_calls(numbers)]

    def test_each_of_the_twenty_calls(self):
        shapes = [
            ([0, 21, 22, 23], (0, [21, 22, 23], None)),
            ([1, 21, 22, 3, 31, 32, 33], (1, [21, 22], [31, 32, 33])),
            ([2, 21, 4, 31, 32, 33, 34], (2, [21], [31, 32, 33, 34])),
            ([3, 21], (3, [21], None)),
            ([4, 21], (4, [21], None)),
            ([5], (5, [], None)),
            ([6, 21, 22], (6, [21, 22], None)),
            ([7, 21], (7, [21], None)),
            ([8], (8, [], None)),
            ([9], (9, [], None)),
            ([10, 21, 22], (10, [21, 22], None)),
            ([11, 21], (11, [21], None)),
            ([12, 21], (12, [21], None)),
            ([13, 21], (13, [21], None)),
            ([14, 21], (14, [21], None)),
            ([15, 21], (15, [21], None)),
            ([16], (16, [], None)),
            ([17], (17, [], None)),
            ([18], (18, [], None)),
            ([19], (19, [], None)),
        ]
        for numbers, parts in shapes:
            with self.subTest(numbers=numbers):
                self.assertEqual([parts], self.parts(numbers))
                # Behind and ahead of others, so that one number too few or too many is seen.
                self.assertEqual([(9, [], None), parts, (8, [], None)], self.parts([9] + numbers + [8]))
        every = [number for numbers, parts in shapes for number in numbers]
        self.assertEqual([parts for numbers, parts in shapes], self.parts(every))

    def test_rows_of_no_and_of_twenty_numbers(self):
        self.assertEqual([(1, [0, 0], []), (2, [0], []), (9, [], None)], self.parts([1, 0, 0, 0, 2, 0, 0, 9]))
        long = [HIGHEST, LOWEST] * 10
        self.assertEqual(
            [(1, [0, 0], long), (2, [0], long), (9, [], None)],
            self.parts([1, 0, 0, 20] + long + [2, 0, 20] + long + [9]),
        )

    def test_a_refused_row_is_passed_over_whole(self):
        long = [0] * 20
        self.assertEqual(
            [[0], [-1], [-1], [-1], [-1], [3]],
            ask(case(2, 1, 0), attack(0, 0), attack(0, 0, *long), proof(0), proof(0, *long), alive()),
        )


class Answers(unittest.TestCase):
    def test_each_answer_has_its_count_ahead(self):
        self.assertEqual([1, -6], answers([9]))
        self.assertEqual([1, 0, 1, 1, 2, 1, 0, 1, -6], answers([0, 1, 1, 0, 4, 1, 5, 5]))

    def test_answers_are_a_list_of_whole_numbers(self):
        told = answers(whole_line() + [0, 1, 1, 0, 1, 0, 5, 1, 0, 9])
        self.assertEqual(list, type(told))
        self.assertEqual({int}, {type(number) for number in told})

    def test_before_the_first_call_there_is_no_case(self):
        calls = [attack(0, 0, 0), proof(0, 0, 1), request(1), tick(1), decide(), [6, 0, 1], [7, 0], [8], [9]]
        calls += [[10, 0, 0], [11, 0], [12, 0], [13, 0], [14, 0], [19]]
        self.assertEqual([[-6]] * 15, ask(*calls))
        self.assertEqual([[-5], [0], [0], [0] * 8], ask([15, 0], [16], [17], [18]))

    def test_numbers_below_0_may_stand_behind_the_first(self):
        told = answers([0, 1, 1, 0, 2, 3, 4, 0, -6, 3, -5, 10, 0, 0, 15, 0, 10, 0, 3])
        self.assertEqual([1, 0, 1, 0, 2, 0, -6, 7, 3, 0, 1, 0, -6, 3, -5, 2, 0, -5], told)

    def test_counts_stand_ahead_only_where_they_are_told(self):
        line = [0, 2, 1, 0, 1, 0, 0, 2, 1, 2, 2, 1, 4, 1, 1, 2, 1, 3, 2, 4, 1]
        self.assertEqual([1, 0, 1, 0, 1, 1, 1, 1, 1, 1], answers(line))
        for asked, told in (
            ([12, 0], [2, 1, 1]), ([12, 1], [1, 0]), ([14, 0], [3, 2, 1, 1]), ([16], [3, 2, 3, 2]), ([17], [1, 0]),
            ([15, 0], [6, 0, 0, 0, 0, 1, 2]), ([15, 1], [7, 1, 0, 1, 1, 1, 2, 1]), ([11, 0], [2, 1, 0]),
            ([11, 1], [1, 0]), ([10, 0, 2], [2, 1, 1]), ([13, 0], [1, 3]), ([19], [2, 2, 1]),
            ([18], [8, 1, 1, 2, 0, 0, 0, 0, 0]), ([5, 19], [2, 2, 1, 1, 2]),
            ([5, 6, 3, 1, 17], [2, 2, 1, 1, 0, 3, 1, 3, 1]),
        ):
            with self.subTest(asked=asked):
                self.assertEqual(told, answers(line + asked)[10:])


class HandedIn(unittest.TestCase):
    def test_the_list_is_the_same_afterwards(self):
        for before in PHASES:
            calls = [number for call in before + QUESTIONS for number in call]
            kept = list(calls)
            answers(calls)
            self.assertEqual(kept, calls)

    def test_the_list_is_not_changed_for_a_while_either(self):
        calls = whole_line()
        self.assertEqual(answers(calls), answers(Untouched(calls)))

    def test_two_askings_answer_alike(self):
        calls = whole_line()
        first = answers(calls)
        self.assertEqual(first, answers(calls))
        self.assertEqual([1, -6], answers([9]))
        self.assertEqual(first, answers(calls))

    def test_what_is_given_back_is_the_callers_own(self):
        calls = whole_line()
        first = answers(calls)
        kept = list(first)
        first.clear()
        self.assertEqual(kept, answers(calls))


class LongLines(unittest.TestCase):
    def test_400_calls(self):
        calls = [case(6, 1, 0)] + [tick(1), alive()] * 199 + [decide()]
        self.assertEqual(400, len(calls))
        told = ask(*calls)
        self.assertEqual([0], told[0])
        self.assertEqual([[day] for day in range(1, 200)], told[1:-1:2])
        self.assertEqual([[63]] * 199, told[2:-1:2])
        self.assertEqual([63, 0], told[-1])

    def test_400_calls_with_the_longest_rows(self):
        facts = [number for fact in range(8) for number in (fact, 1)]
        full = [case(6, 20, 0)] + [proof(3, *facts)] * 24
        calls = full + [proof(0, *([0] * 20))] * 373 + [attack(0, 5, 0, 1, 2), alive()]
        self.assertEqual(400, len(calls))
        told = ask(*calls)
        self.assertEqual([[0]] + [[number] for number in range(24)], told[:25])
        self.assertEqual([[-1]] * 373 + [[-3], [63]], told[25:])

    def test_400_calls_with_the_longest_answers(self):
        facts = [number for f in range(8) for number in (f, 9)]
        full = [case(6, 1, 0)] + [proof(0, *facts)] + [attack(0, 5, f) for f in range(8)] + [proof(3, *facts)] * 15
        self.assertEqual([[8, *range(8)]] * 375, ask(*full, *[fewest(5)] * 375)[25:])
        self.assertEqual([[31]] * 374 + [[3, 0, 1, *facts]], ask(*full, *[without(23)] * 374, piece(23))[25:])
        late = [case(6, 9, 0), attack(0, 5, 0), tick(1)] + [proof(0, 0, 9), proof(3, 0, -9)] * 11 + [proof(0, 1, 1)]
        self.assertEqual([[63]] * 374, ask(*late, *[without(23)] * 374)[26:])

    def test_a_line_of_400_with_full_requests_and_appeals(self):
        line = [case(6, 1, 0)] + [request(63)] * 5 + [tick(1), decide()] + [appeal(turn % 3, 63) for turn in range(8)]
        line += [requests(), [17]] * 191 + [tick(61), close()]
        self.assertEqual(400, len(line))
        told = ask(*line)
        self.assertEqual([[6] + [63] * 6, [8] + [0, 63, 1, 63, 2, 63] * 2 + [0, 63, 1, 63]], told[16:18])
        self.assertEqual(told[16:18] * 191, told[16:-2])
        self.assertEqual([63], told[-1])

    def test_400_cases(self):
        self.assertEqual([[0]] * 400, ask(*[case(1 + turn % 6, 1 + turn % 20, turn % 366) for turn in range(400)]))

    def test_400_refusals_without_a_case(self):
        self.assertEqual([[-6]] * 400, ask(*[alive()] * 400))


if __name__ == "__main__":
    unittest.main()
