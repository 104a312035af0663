"""Kinds of ware, which stand in trees."""


def under(parents, one, other):
    kind = one
    # Kinds are counted from 0, so that only None ends the way up.
    while kind is not None:
        if kind == other:
            return True
        kind = parents[kind]
    return False
