"""The fewest facts on which a claim's fate hangs."""

from oppositions.counting import FACTS


def has_one_of_each(facts, attacks):
    for piece in attacks:
        if not any([fact in facts for fact in piece.facts]):
            return False
    return True


def one_longer(facts):
    first = facts[-1] + 1 if len(facts) > 0 else 0
    return [facts + [fact] for fact in range(first, FACTS)]


# Choices are gone through as they were put behind one another: so the shorter ones come first, and of
# those as long the first in the order of lists. All facts together do, as each attack needs one at least.
def fewest_facts(attacks):
    choices = [[]]
    at = 0
    while not has_one_of_each(choices[at], attacks):
        choices.extend(one_longer(choices[at]))
        at += 1
    return choices[at]
