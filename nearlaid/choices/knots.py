"""Papers of knots: knot 0 is the begin, and each branch names a column and the two knots behind it.

Branches are tuples (column, knot, knot), or None for an end, one for each knot of a paper.
"""


def named_rightly(branches, columns):
    """Whether there are knots, and each branch names one of so many columns, and knots as it may.

    Each knot is named at most once and ahead of itself, so ways never meet or go round.
    """
    named = set()
    for at, branch in enumerate(branches):
        if branch is not None:
            column, one, other = branch
            if not 0 <= column < columns or one == other:
                return False
            for knot in (one, other):
                if not at < knot < len(branches) or knot in named:
                    return False
            named.add(one)
            named.add(other)
    return len(branches) > 0


def states_at_ends(paper, branches, begin, gone):
    """For each end that is come to a pair (knot, state): what the ways have made of the state at the begin.

    gone is a function that tells of a knot and the state there both states behind it.
    """
    # Knots are named only ahead of themselves, so each is come to before it is looked at.
    states = {0: begin}
    found = []
    for at, branch in enumerate(branches):
        if at in states:
            if branch is None:
                found.append((paper[at], states[at]))
            else:
                column, one, other = branch
                states[one], states[other] = gone(paper[at], states[at])
    return found
