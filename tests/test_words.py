"""Many lines of calls, answered by the program and, slowly, straight by the document's words."""

import random
import unittest

from tests.helper import alive, appeal, ask, attack, case, close, decide, proof, request, tick, withdraw

LINES = 600
CALLS = 120


class Words:
    """The document's words one by one; everything that can be told anew is told anew for each call."""

    def __init__(self):
        self.phase = 0

    def case(self, n, bar, limit):
        if not (1 <= n <= 6 and 1 <= bar <= 20 and 0 <= limit <= 365):
            return [-1]
        self.phase, self.n, self.bar, self.limit, self.day = 1, n, bar, limit, 0
        self.pieces, self.requests, self.appeals = [], [set(range(n))], []
        return [0]

    def bring(self, piece):
        if self.phase in (0, 3):
            return [-6]
        if len(self.pieces) == 24:
            return [-3]
        late = self.day > self.limit or self.phase == 2
        self.pieces.append(dict(piece, late=late, number=len(self.pieces)))
        return [len(self.pieces) - 1]

    def attack(self, o, c, *facts):
        going_up = list(facts) == sorted(set(facts)) and all(0 <= fact <= 7 for fact in facts)
        if not (0 <= o <= 2 and 0 <= c <= 5 and 1 <= len(facts) <= 3 and going_up):
            return [-1]
        if self.phase and c >= self.n:
            return [-5]
        return self.bring({"claim": c, "facts": facts})

    def proof(self, p, *weights):
        facts, weigh = list(weights[::2]), weights[1::2]
        going_up = facts == sorted(set(facts)) and all(0 <= fact <= 7 for fact in facts)
        in_range = all(weight in range(-9, 10) and weight for weight in weigh)
        if not (0 <= p <= 3 and facts and len(facts) == len(weigh) and going_up and in_range):
            return [-1]
        return self.bring({"tells": dict(zip(facts, weigh))})

    def proven(self, pieces, fact):
        return sum(piece.get("tells", {}).get(fact, 0) for piece in pieces) >= self.bar

    def stands(self, pieces, claim):
        attacks = [piece for piece in pieces if piece.get("claim") == claim]
        return not any(all(self.proven(pieces, fact) for fact in piece["facts"]) for piece in attacks)

    def let_in(self, counts, pieces, claim):
        for piece in pieces:
            if self.stands(counts + [piece], claim) != self.stands(counts, claim):
                counts = counts + [piece]
        return counts

    def before_decision(self, pieces, claim):
        late = [piece for piece in pieces if piece["late"]]
        return self.let_in([piece for piece in pieces if not piece["late"]], late, claim)

    def counts(self, claim):
        if self.phase == 1:
            return self.before_decision(self.pieces, claim)
        return self.let_in(self.fixed[claim], self.pieces[self.brought_then:], claim)

    def standing(self):
        return {claim for claim in range(self.n) if self.stands(self.counts(claim), claim)}

    def request(self, m):
        if not 1 <= m <= 63:
            return [-1]
        if self.phase != 1:
            return [-6]
        if not members(m) <= set(range(self.n)):
            return [-5]
        if len(self.requests) == 6:
            return [-3]
        self.requests.append(members(m))
        return [len(self.requests) - 1]

    def tick(self, n):
        if not 1 <= n <= 365:
            return [-1]
        if self.phase == 0:
            return [-6]
        if self.day + n > 10000:
            return [-3]
        self.day += n
        return [self.day]

    def decide(self):
        if self.phase != 1 or self.day <= self.limit:
            return [-6]
        granted = [number for number, claims in enumerate(self.requests) if claims <= self.standing()]
        number = granted[0] if granted else len(self.requests)
        self.kept = self.requests[number] if granted else set()
        self.fixed = [self.before_decision(self.pieces, claim) for claim in range(self.n)]
        self.brought_then, self.decided, self.phase = len(self.pieces), self.day, 2
        return [as_number(self.kept), number]

    def appeal(self, p, m):
        if not (0 <= p <= 3 and 1 <= m <= 63):
            return [-1]
        if self.phase != 2 or self.day - self.decided > 60:
            return [-6]
        allowed = set(range(self.n)) - self.kept if p == 3 else self.kept
        if not members(m) <= allowed:
            return [-5]
        if len(self.appeals) == 8:
            return [-3]
        self.appeals.append((p, members(m)))
        return [len(self.appeals) - 1]

    def withdraw(self, o):
        if not 0 <= o <= 2:
            return [-1]
        if self.phase in (0, 3):
            return [-6]
        gone = [made for made in self.appeals if made[0] == o]
        self.appeals = [made for made in self.appeals if made[0] != o]
        return [len(gone)]

    def close(self):
        if self.phase != 2 or self.day - self.decided <= 60:
            return [-6]
        standing = self.standing()
        named = set().union(*[claims for p, claims in self.appeals if p != 3])
        owned = set().union(*[claims for p, claims in self.appeals if p == 3])
        self.phase = 3
        return [as_number((self.kept - (named - standing)) | (owned & standing))]

    def alive(self):
        return [-6] if self.phase == 0 else [as_number(self.standing())]


def members(m):
    return {claim for claim in range(6) if m >> claim & 1}


def as_number(claims):
    return sum(2 ** claim for claim in claims)


def some_facts(chance, most):
    facts = sorted(chance.sample(range(chance.choice((2, 3, 8))), chance.randint(1, 2)))[:most]
    if chance.random() < 0.03:
        facts = [chance.randint(-1, 8) for turn in range(chance.randint(0, 5))]
    return facts


def some_proof(chance):
    weights = []
    for fact in some_facts(chance, 8):
        weights += [fact, chance.choice((-9, -3, -2, -1, 1, 1, 2, 2, 3, 4, 9))]
    if chance.random() < 0.03:
        weights.append(chance.randint(-10, 10))
    return ("proof", chance.randint(0, 3), *weights)


def some_claims(chance, n):
    return chance.choice((1 << chance.randrange(n), 1 << chance.randrange(n), chance.randint(1, 2 ** n),
                          chance.randint(0, 64)))


def some_call(chance, n):
    draw = chance.random()
    if draw < 0.01:
        return ("case", chance.randint(0, 7), chance.randint(0, 21), chance.choice((-1, 0, 3, 365, 366)))
    if draw < 0.2:
        return ("attack", chance.choice((0, 1, 2, 2, 3)), chance.randrange(n + 1), *some_facts(chance, 3))
    if draw < 0.5:
        return some_proof(chance)
    if draw < 0.56:
        return ("request", some_claims(chance, n))
    if draw < 0.68:
        return ("tick", chance.choice((1, 1, 2, 5, 20, 40)))
    if draw < 0.71:
        return ("decide",)
    if draw < 0.81:
        return ("appeal", chance.randint(0, 3), some_claims(chance, n))
    if draw < 0.83:
        return ("withdraw", chance.randint(0, 2))
    return ("close",) if draw < 0.87 else ("alive",)


def some_line(chance):
    n = chance.randint(1, 6)
    line = [("case", n, chance.choice((1, 2, 3, 4)), chance.choice((0, 2, 10, 30)))]
    return line + [some_call(chance, n) for turn in range(CALLS)]


BY_NAME = {
    "case": case, "attack": attack, "proof": proof, "request": request, "tick": tick, "decide": decide,
    "appeal": appeal, "withdraw": withdraw, "close": close, "alive": alive,
}


class AgainstTheWords(unittest.TestCase):
    def test_lines(self):
        seen = set()
        for seed in range(LINES):
            line = some_line(random.Random(seed))
            words = Words()
            told = [getattr(words, call[0])(*call[1:]) for call in line]
            with self.subTest(seed=seed):
                self.assertEqual(told, ask(*[BY_NAME[call[0]](*call[1:]) for call in line]))
            seen.update((call[0], min(answer[0], 0)) for call, answer in zip(line, told))
        # The lines reach each refusal that such calls can give (day 10000 and no case are tested elsewhere).
        for call, refusals in (
            ("case", (-1,)), ("attack", (-1, -5, -6, -3)), ("proof", (-1, -6, -3)), ("request", (-1, -6, -5, -3)),
            ("tick", ()), ("decide", (-6,)), ("appeal", (-1, -6, -5, -3)), ("withdraw", (-6,)), ("close", (-6,)),
            ("alive", ()),
        ):
            for answer in (0, *refusals):
                self.assertIn((call, answer), seen)


if __name__ == "__main__":
    unittest.main()
