"""Many lines of calls, answered by the program and, slowly, straight by the document's words."""

import itertools
import random
import unittest

from tests import helper

LINES = 600
CALLS = 160


class Words:
    """The document's words one by one; everything that can be told anew is told anew for each call."""

    def __init__(self):
        self.phase = self.n = self.bar = self.limit = self.day = self.number = self.decided = 0
        self.pieces, self.asked, self.made, self.kept, self.outcome = [], [], [], set(), set()

    def case(self, n, bar, limit):
        if not (1 <= n <= 6 and 1 <= bar <= 20 and 0 <= limit <= 365):
            return [-1]
        self.__init__()
        self.phase, self.n, self.bar, self.limit = 1, n, bar, limit
        self.asked = [set(range(n))]
        return [0]

    def bring(self, piece):
        if self.phase in (0, 3):
            return [-6]
        if len(self.pieces) == 24:
            return [-3]
        late = self.day > self.limit or self.phase == 2
        self.pieces.append(dict(piece, late=late, number=len(self.pieces)))
        return [len(self.pieces) - 1]

    def attack(self, o, c, *facts):
        going_up = list(facts) == sorted(set(facts)) and all(0 <= fact <= 7 for fact in facts)
        if not (0 <= o <= 2 and 0 <= c <= 5 and 1 <= len(facts) <= 3 and going_up):
            return [-1]
        if self.phase and c >= self.n:
            return [-5]
        return self.bring({"who": o, "claim": c, "facts": facts})

    def proof(self, p, *weights):
        facts, weigh = list(weights[::2]), weights[1::2]
        going_up = facts == sorted(set(facts)) and all(0 <= fact <= 7 for fact in facts)
        in_range = all(weight in range(-9, 10) and weight for weight in weigh)
        if not (0 <= p <= 3 and facts and len(facts) == len(weigh) and going_up and in_range):
            return [-1]
        return self.bring({"who": p, "tells": dict(zip(facts, weigh)), "row": weights})

    def how_much(self, pieces, f):
        return sum(piece.get("tells", {}).get(f, 0) for piece in pieces)

    def proven(self, pieces, f):
        return self.how_much(pieces, f) >= self.bar

    def proven_attacks(self, pieces, claim):
        attacks = [piece for piece in pieces if piece.get("claim") == claim]
        return [piece for piece in attacks if all(self.proven(pieces, f) for f in piece["facts"])]

    def stands(self, pieces, claim):
        return not self.proven_attacks(pieces, claim)

    def letting_in(self, counts, pieces, claim):
        for piece in pieces:
            if self.stands(counts + [piece], claim) != self.stands(counts, claim):
                counts = counts + [piece]
        return counts

    def before_decision(self, pieces, claim):
        late = [piece for piece in pieces if piece["late"]]
        return self.letting_in([piece for piece in pieces if not piece["late"]], late, claim)

    def counts(self, claim, left_out=None):
        there = [piece for piece in self.pieces if piece["number"] != left_out]
        if self.phase == 1:
            return self.before_decision(there, claim)
        then = [piece for piece in there if piece["number"] in self.fixed[claim]]
        return self.letting_in(then, [piece for piece in there if piece["number"] >= self.brought_then], claim)

    def standing(self):
        return {claim for claim in range(self.n) if self.stands(self.counts(claim), claim)}

    def request(self, m):
        if not 1 <= m <= 63:
            return [-1]
        if self.phase != 1:
            return [-6]
        if not members(m) <= set(range(self.n)):
            return [-5]
        if len(self.asked) == 6:
            return [-3]
        self.asked.append(members(m))
        return [len(self.asked) - 1]

    def tick(self, n):
        if not 1 <= n <= 365:
            return [-1]
        if self.phase == 0:
            return [-6]
        if self.day + n > 10000:
            return [-3]
        self.day += n
        return [self.day]

    def decide(self):
        if self.phase != 1 or self.day <= self.limit:
            return [-6]
        self.kept, self.number = self.granted()
        self.fixed = [
            [piece["number"] for piece in self.before_decision(self.pieces, claim)] for claim in range(self.n)]
        self.brought_then, self.decided, self.phase = len(self.pieces), self.day, 2
        return [as_number(self.kept), self.number]

    def granted(self):
        for number, claims in enumerate(self.asked):
            if claims <= self.standing():
                return claims, number
        return set(), len(self.asked)

    def appeal(self, p, m):
        if not (0 <= p <= 3 and 1 <= m <= 63):
            return [-1]
        if self.phase != 2 or self.day - self.decided > 60:
            return [-6]
        allowed = set(range(self.n)) - self.kept if p == 3 else self.kept
        if not members(m) <= allowed:
            return [-5]
        if len(self.made) == 8:
            return [-3]
        self.made.append((p, members(m)))
        return [len(self.made) - 1]

    def withdraw(self, o):
        if not 0 <= o <= 2:
            return [-1]
        if self.phase in (0, 3):
            return [-6]
        gone = [made for made in self.made if made[0] == o]
        self.made = [made for made in self.made if made[0] != o]
        return [len(gone)]

    def close(self):
        if self.phase != 2 or self.day - self.decided <= 60:
            return [-6]
        self.outcome = self.outcome_now()
        self.phase = 3
        return [as_number(self.outcome)]

    def outcome_now(self):
        standing = self.standing()
        named = set().union(*[claims for p, claims in self.made if p != 3])
        owned = set().union(*[claims for p, claims in self.made if p == 3])
        return (self.kept - (named - standing)) | (owned & standing)

    def alive(self):
        return [-6] if self.phase == 0 else [as_number(self.standing())]

    def no_claim(self, c):
        if not 0 <= c <= 5:
            return [-1]
        if self.phase == 0:
            return [-6]
        return [-5] if c >= self.n else None

    def fact(self, c, f):
        if not (0 <= c <= 5 and 0 <= f <= 7):
            return [-1]
        return self.no_claim(c) or [
            1 if self.proven(self.counts(c), f) else 0, self.how_much(self.counts(c), f)]

    def why(self, c):
        refusal = self.no_claim(c)
        attacks = [] if refusal else [piece["number"] for piece in self.proven_attacks(self.counts(c), c)]
        return refusal or ([1, min(attacks)] if attacks else [0])

    def fewest(self, c):
        refusal = self.no_claim(c)
        attacks = [] if refusal else [set(piece["facts"]) for piece in self.proven_attacks(self.counts(c), c)]
        every = [facts for size in range(9) for facts in itertools.combinations(range(8), size)]
        fit = [facts for facts in every if all(needed & set(facts) for needed in attacks)]
        best = min(fit, key=lambda facts: (len(facts), facts))
        return refusal or [len(best), *best]

    def no_piece(self, i):
        if not 0 <= i <= 23:
            return [-1]
        return [-5] if i >= len(self.pieces) else None

    def without(self, i):
        if self.phase == 0 and 0 <= i <= 23:
            return [-6]
        return self.no_piece(i) or [
            as_number({claim for claim in range(self.n) if self.stands(self.counts(claim, i), claim)})]

    def let_in(self, c):
        refusal = self.no_claim(c)
        if refusal:
            return refusal
        counts = [piece["number"] for piece in self.counts(c)]
        return [len(self.pieces), *[1 if number in counts else 0 for number in range(len(self.pieces))]]

    def piece(self, i):
        refusal = self.no_piece(i)
        if refusal:
            return refusal
        piece = self.pieces[i]
        ahead = [piece["who"], 1 if piece["late"] else 0]
        return ahead + ([1, *piece["row"]] if "row" in piece else [0, piece["claim"], *piece["facts"]])

    def requests(self):
        return [len(self.asked), *[as_number(claims) for claims in self.asked]]

    def appeals(self):
        return [len(self.made), *[number for p, claims in self.made for number in (p, as_number(claims))]]

    def status(self):
        return [self.phase, self.day, self.n, self.limit, as_number(self.kept), self.number, self.decided,
                as_number(self.outcome)]

    def would(self):
        if self.phase == 1:
            claims, number = self.granted()
            return [as_number(claims), number]
        return [as_number(self.outcome_now())] if self.phase == 2 else [-6]


def members(m):
    return {claim for claim in range(6) if m >> claim & 1}


def as_number(claims):
    return sum(2 ** claim for claim in claims)


def some_facts(chance, most):
    facts = sorted(chance.sample(range(chance.choice((2, 3, 8))), chance.randint(1, 2)))[:most]
    if chance.random() < 0.03:
        facts = [chance.randint(-1, 8) for turn in range(chance.randint(0, 5))]
    return facts


def some_proof(chance):
    weights = []
    for fact in some_facts(chance, 8):
        weights += [fact, chance.choice((-9, -3, -2, -1, 1, 1, 2, 2, 3, 4, 9))]
    if chance.random() < 0.03:
        weights.append(chance.randint(-10, 10))
    return ("proof", chance.randint(0, 3), *weights)


def some_claims(chance, n):
    return chance.choice((1 << chance.randrange(n), 1 << chance.randrange(n), chance.randint(1, 2 ** n),
                          chance.randint(0, 64)))


def some_question(chance, n):
    name = chance.choice((
        "alive", "fact", "why", "fewest", "without", "without", "without", "let_in", "let_in", "piece", "requests",
        "appeals", "status", "would", "would",
    ))
    if name == "fact":
        return (name, chance.randrange(-1, n + 1), chance.choice((0, 1, 2, 7, 8)))
    if name in ("why", "fewest", "let_in"):
        return (name, chance.choice((*range(n), *range(n), -1, n)))
    if name in ("without", "piece"):
        return (name, chance.choice((*range(24), -1, 24, *range(8), *range(8))))
    return (name,)


def some_change(chance, n):
    draw = chance.random()
    if draw < 0.015:
        return ("case", chance.randint(0, 7), chance.randint(0, 21), chance.choice((-1, 0, 3, 365, 366)))
    if draw < 0.25:
        return ("attack", chance.choice((0, 1, 2, 2, 3)), chance.randrange(n + 1), *some_facts(chance, 3))
    if draw < 0.6:
        return some_proof(chance)
    if draw < 0.67:
        return ("request", some_claims(chance, n))
    if draw < 0.79:
        return ("tick", chance.choice((1, 1, 2, 5, 20, 40)))
    if draw < 0.825:
        return ("decide",)
    if draw < 0.945:
        return ("appeal", chance.randint(0, 3), some_claims(chance, n))
    return ("withdraw", chance.randint(0, 2)) if draw < 0.97 else ("close",)


def some_line(chance):
    n = chance.randint(1, 6)
    line = [("case", n, chance.choice((1, 2, 3, 4)), chance.choice((0, 2, 10, 30)))]
    # Now and then something is asked ahead of the first case.
    ahead = [some_question(chance, n) for turn in range(chance.choice((0, 0, 0, 8)))]
    pick = (some_change, some_change, some_question)
    return ahead + line + [chance.choice(pick)(chance, n) for turn in range(CALLS)]


class AgainstTheWords(unittest.TestCase):
    def test_lines(self):
        seen = set()
        for seed in range(LINES):
            line = some_line(random.Random(seed))
            words = Words()
            told = [(words.phase, getattr(words, call[0])(*call[1:])) for call in line]
            with self.subTest(seed=seed):
                plain = [getattr(helper, call[0])(*call[1:]) for call in line]
                self.assertEqual([answer for phase, answer in told], helper.ask(*plain))
            for call, (phase, answer) in zip(line, told):
                seen.add((call[0], min(answer[0], 0)))
                seen.add((call[0], min(answer[0], 0), phase))
        # The lines reach each refusal that such calls can give (day 10000 is tested elsewhere).
        for call, refusals in (
            ("case", (-1,)), ("attack", (-1, -5, -6, -3)), ("proof", (-1, -6, -3)), ("request", (-1, -6, -5, -3)),
            ("tick", ()), ("decide", (-6,)), ("appeal", (-1, -6, -5, -3)), ("withdraw", (-6,)), ("close", (-6,)),
            ("alive", (-6,)), ("fact", (-1, -6, -5)), ("why", (-1, -6, -5)), ("fewest", (-1, -6, -5)),
            ("without", (-1, -6, -5)), ("let_in", (-1, -6, -5)), ("piece", (-1, -5)), ("requests", ()),
            ("appeals", ()), ("status", ()), ("would", (-6,)),
        ):
            for answer in (0, *refusals):
                self.assertIn((call, answer), seen)
        # And each question in each phase in which it answers.
        for call in ("alive", "fact", "why", "fewest", "without", "let_in", "piece"):
            for phase in (1, 2, 3):
                self.assertIn((call, 0, phase), seen)
        for call in ("requests", "appeals", "status"):
            for phase in range(4):
                self.assertIn((call, 0, phase), seen)


if __name__ == "__main__":
    unittest.main()
