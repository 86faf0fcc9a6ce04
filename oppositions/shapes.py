"""How a call stands in the list of whole numbers, and whether its numbers are as told."""

ATTACK = 1
PROOF = 2

LAST_FACT = 7
MOST_FACTS_OF_ATTACK = 3
MOST_WEIGHT = 9

# By a call's number: the lowest and the highest value of each of its whole numbers.
RANGES = {
    0: ((1, 6), (1, 20), (0, 365)),
    1: ((0, 2), (0, 5)),
    2: ((0, 3),),
    3: ((1, 63),),
    4: ((1, 365),),
    5: (),
    6: ((0, 3), (1, 63)),
    7: ((0, 2),),
    8: (),
    9: (),
    10: ((0, 5), (0, 7)),
    11: ((0, 5),),
    12: ((0, 5),),
    13: ((0, 23),),
    14: ((0, 5),),
    15: ((0, 23),),
    16: (),
    17: (),
    18: (),
    19: (),
}


class Call:
    # The row is None where the call has none: an empty row is a row that isn't as told.
    def __init__(self, number, arguments, row):
        self.number = number
        self.arguments = arguments
        self.row = row

    def width(self):
        if self.row is None:
            return 1 + len(self.arguments)
        return 2 + len(self.arguments) + len(self.row)


def read_call(numbers, start):
    number = numbers[start]
    behind = start + 1 + len(RANGES[number])
    arguments = numbers[start + 1:behind]
    if number not in (ATTACK, PROOF):
        return Call(number, arguments, None)
    first = behind + 1
    return Call(number, arguments, numbers[first:first + numbers[behind]])


def split_calls(numbers):
    calls = []
    start = 0
    while start < len(numbers):
        call = read_call(numbers, start)
        calls.append(call)
        start += call.width()
    return calls


def are_facts(facts):
    if len(facts) == 0:
        return False
    # One below the first fact, so that the first one has to go up too.
    before = -1
    for fact in facts:
        if fact <= before or fact > LAST_FACT:
            return False
        before = fact
    return True


def is_weight(weight):
    return weight != 0 and -MOST_WEIGHT <= weight <= MOST_WEIGHT


def are_facts_and_weights(row):
    if len(row) % 2 == 1 or not are_facts(row[0::2]):
        return False
    return all([is_weight(weight) for weight in row[1::2]])


def is_row_as_told(call):
    if call.number == ATTACK:
        return len(call.row) <= MOST_FACTS_OF_ATTACK and are_facts(call.row)
    if call.number == PROOF:
        return are_facts_and_weights(call.row)
    return True


def is_as_told(call):
    for value, bounds in zip(call.arguments, RANGES[call.number]):
        if value < bounds[0] or value > bounds[1]:
            return False
    return is_row_as_told(call)
