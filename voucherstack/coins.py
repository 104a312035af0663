"""Dealing a cut out over weights, to the smallest coin."""


def dealt(cut, weights):
    total = sum(weights)
    if total == 0:
        return [0 for weight in weights]
    parts = []
    reached = 0
    given = 0
    for weight in weights:
        reached += weight
        # Rounding the running sum, not each part, is what makes the parts the cut together.
        share = cut * reached // total
        parts.append(share - given)
        given = share
    return parts
