"""The case as it is now: what was brought, asked and decided."""

from oppositions.counting import Piece, nothing_counted

NO_CASE = 0
OPPOSED = 1
DECIDED = 2
OVER = 3

OWNER = 3
DAYS_TO_APPEAL = 60


def claims_that_stand(every):
    return sum([1 << counted.claim for counted in every if counted.stands()])


def weighed_on(counted, pieces):
    for piece in pieces:
        counted = counted.weighed_with(piece)
    return counted


class Dispute:
    def __init__(self):
        self.wipe()

    # Everything that is kept of a case is set here, so that nothing is left of one before.
    def wipe(self):
        self.phase = NO_CASE
        self.day = 0
        self.claims = 0
        self.limit = 0
        self.pieces = []
        self.counted = []
        self.settled = []
        self.settled_pieces = 0
        self.requests = []
        self.appeals = []
        self.kept = 0
        self.kept_request = 0
        self.decision_day = 0
        self.outcome = 0

    def begin(self, claims, bar, limit):
        self.wipe()
        self.phase = OPPOSED
        self.claims = claims
        self.limit = limit
        self.settled = [nothing_counted(claim, bar) for claim in range(claims)]
        self.counted = list(self.settled)
        self.requests = [self.all_claims()]

    def all_claims(self):
        return (1 << self.claims) - 1

    def has_claims(self, named):
        return named & ~self.all_claims() == 0

    def is_running(self):
        return self.phase in (OPPOSED, DECIDED)

    # The first decision comes behind the limit, so what comes behind it is late by its day already.
    def is_behind_limit(self):
        return self.day > self.limit

    def is_behind_appeals(self):
        return self.day > self.decision_day + DAYS_TO_APPEAL

    def bring(self, bringer, claim, facts, weights):
        piece = Piece(len(self.pieces), bringer, self.is_behind_limit(), claim, facts, weights)
        self.pieces.append(piece)
        self.counted = [counted.weighed_with(piece) for counted in self.counted]

    def standing(self):
        return claims_that_stand(self.counted)

    # From what is settled on, which is nothing until the first decision, the pieces are weighed anew.
    def standing_without(self, number):
        since = [piece for piece in self.pieces[self.settled_pieces:] if piece.number != number]
        return claims_that_stand([weighed_on(settled.less(number), since) for settled in self.settled])

    # The claims of the first request that can be granted, and its number.
    def granted(self):
        standing = self.standing()
        for number, request in enumerate(self.requests):
            if request & ~standing == 0:
                return (request, number)
        return (0, len(self.requests))

    def decide(self):
        granted = self.granted()
        self.kept = granted[0]
        self.kept_request = granted[1]
        self.settled = self.counted
        self.settled_pieces = len(self.pieces)
        self.decision_day = self.day
        self.phase = DECIDED

    def may_name(self, party, named):
        if party == OWNER:
            return self.has_claims(named) and named & self.kept == 0
        return named & ~self.kept == 0

    def outcome_now(self):
        standing = self.standing()
        claims = self.kept
        for party, named in self.appeals:
            if party == OWNER:
                claims |= named & standing
            else:
                claims &= ~(named & ~standing)
        return claims

    def fix_outcome(self):
        self.outcome = self.outcome_now()
        self.phase = OVER
