"""Papers of knots: knot 0 is the begin, and each branch names a column and the two knots behind it."""


def named_rightly(branches, columns):
    """Whether a paper has knots, and each branch names a column and knots as it may.

    Branches are tuples (column, knot, knot), or None for an end, one for each knot; columns is how
    many there are. Each knot is named at most once and behind itself, so ways never meet or go round.
    """
    named = set()
    for at, branch in enumerate(branches):
        if branch is not None:
            column, one, other = branch
            if not 0 <= column < columns or one == other:
                return False
            for knot in (one, other):
                if not at < knot < len(branches) or knot in named:
                    return False
            named.add(one)
            named.add(other)
    return len(branches) > 0
