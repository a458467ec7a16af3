"""Bounds: how much is needed, how long it takes, what it costs."""


def least_needed(level, patience):
    """The least needed count with which no wrong claim is ever confirmed."""
    return (level + 1) * patience + 1


def latest_closing(opened, level, patience, needed):
    """The height at which the arena of a question is closed at the latest."""
    return opened + needed + (2 * level + 4) * patience


def rival_counts(arena, truth, height):
    """The list of the counts of all posted root spans but the true one, in the order of posting."""
    return [arena.count(span, height) for span in arena.spans()
            if arena.payer(span) is not None and span != truth.root()]


def outlay_bound(arena, name):
    """The most that the account has paid if it keeps the rules."""
    half_stakes = 0
    for span in arena.spans():
        if arena.payer(span) is not None and arena.payer(span) != name:
            half_stakes += 1
        if arena.is_halved(span) and arena.halver(span) != name:
            half_stakes += 2
    return arena.root_stake() + half_stakes * arena.half_stake()
