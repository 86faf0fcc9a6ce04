"""The case as it is now: what was brought, asked and decided."""

from oppositions.counting import nothing_counted

NO_CASE = 0
OPPOSED = 1
DECIDED = 2
OVER = 3

OWNER = 3
DAYS_TO_APPEAL = 60


class Dispute:
    def __init__(self):
        self.wipe()

    # Everything that is kept of a case is set here, so that nothing is left of one before.
    def wipe(self):
        self.phase = NO_CASE
        self.day = 0
        self.claims = 0
        self.limit = 0
        self.pieces = []
        self.counted = []
        self.requests = []
        self.appeals = []
        self.kept = 0
        self.kept_request = 0
        self.decision_day = 0
        self.outcome = 0

    def begin(self, claims, bar, limit):
        self.wipe()
        self.phase = OPPOSED
        self.claims = claims
        self.limit = limit
        self.counted = [nothing_counted(claim, bar) for claim in range(claims)]
        self.requests = [self.all_claims()]

    def all_claims(self):
        return (1 << self.claims) - 1

    def has_claims(self, named):
        return named & ~self.all_claims() == 0

    def is_running(self):
        return self.phase in (OPPOSED, DECIDED)

    # The first decision comes behind the limit, so what comes behind it is late by its day already.
    def is_behind_limit(self):
        return self.day > self.limit

    def is_behind_appeals(self):
        return self.day > self.decision_day + DAYS_TO_APPEAL

    def bring(self, piece):
        self.pieces.append(piece)
        self.counted = [counted.weighed_with(piece) for counted in self.counted]

    def standing(self):
        return sum([1 << counted.claim for counted in self.counted if counted.stands()])

    # The number of the first request all of whose claims stand now, or how many requests there are.
    def granted_request(self):
        standing = self.standing()
        for number, request in enumerate(self.requests):
            if request & ~standing == 0:
                return number
        return len(self.requests)

    def decide(self):
        self.kept_request = self.granted_request()
        if self.kept_request < len(self.requests):
            self.kept = self.requests[self.kept_request]
        self.decision_day = self.day
        self.phase = DECIDED

    def may_name(self, party, named):
        if party == OWNER:
            return self.has_claims(named) and named & self.kept == 0
        return named & ~self.kept == 0

    def outcome_now(self):
        standing = self.standing()
        claims = self.kept
        for party, named in self.appeals:
            if party == OWNER:
                claims |= named & standing
            else:
                claims &= ~(named & ~standing)
        return claims

    def fix_outcome(self):
        self.outcome = self.outcome_now()
        self.phase = OVER
