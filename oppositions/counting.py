"""Pieces, and what of them counts as to one claim."""

FACTS = 8


class Piece:
    # An attack has a claim and no weights; proof has a weight for each fact, and None as its claim.
    def __init__(self, number, bringer, late, claim, facts, weights):
        self.number = number
        self.bringer = bringer
        self.late = late
        self.claim = claim
        self.facts = facts
        self.weights = weights


def is_proof(piece):
    return piece.claim is None


# An attack adds nothing, having no weights.
def added_up(support, piece):
    after = list(support)
    for fact, weight in zip(piece.facts, piece.weights):
        after[fact] += weight
    return after


class Counted:
    # Never changed once made: so a piece can be tried, and left out again at no cost.
    def __init__(self, claim, bar, pieces, support):
        self.claim = claim
        self.bar = bar
        self.pieces = pieces
        self.support = support

    def is_proven(self, fact):
        return self.support[fact] >= self.bar

    def is_brought_down_by(self, piece):
        if piece.claim != self.claim:
            return False
        return all([self.is_proven(fact) for fact in piece.facts])

    def proven_attacks(self):
        return [piece for piece in self.pieces if self.is_brought_down_by(piece)]

    def stands(self):
        return len(self.proven_attacks()) == 0

    def joined_by(self, piece):
        return Counted(self.claim, self.bar, self.pieces + [piece], added_up(self.support, piece))

    # Pieces in time all come ahead of the late ones, as the day only goes up, and the first decision
    # leaves what counted as it was: so each piece is weighed once, when it comes.
    def weighed_with(self, piece):
        joined = self.joined_by(piece)
        if piece.late and joined.stands() == self.stands():
            return self
        return joined

    # The late ones of those that stay are not weighed again: what counted stays as it was.
    def less(self, number):
        fewer = nothing_counted(self.claim, self.bar)
        for piece in self.pieces:
            if piece.number != number:
                fewer = fewer.joined_by(piece)
        return fewer


def nothing_counted(claim, bar):
    return Counted(claim, bar, [], [0] * FACTS)
