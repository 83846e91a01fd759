"""Two books held against one another."""

from fivefields.leaps import first_at
from fivefields.months import KINDS


def times_of_two(one, other, kind):
    """The times of two books on each day of a month of a kind, as tuples."""
    return list(zip(one.on_days(kind), other.on_days(kind)))


def against(one, other):
    """The word that tells how the moments of two books lie to one another."""
    both = 0
    one_alone = 0
    other_alone = 0
    for kind in range(KINDS):
        for times, others in times_of_two(one, other, kind):
            both = both | (times & others)
            one_alone = one_alone | (times & ~others)
            other_alone = other_alone | (others & ~times)
    if one_alone == 0 and other_alone == 0:
        return "alike"
    if one_alone == 0:
        return "within"
    if other_alone == 0:
        return "around"
    if both == 0:
        return "apart"
    return "across"


def parted_from(one, other, moment):
    """The first moment from that one on at which just one of two books holds, None where they are alike."""
    return first_at(lambda kind: [times ^ others for times, others in times_of_two(one, other, kind)], moment)


def shared_from(one, other, moment):
    """The first moment from that one on at which two books both hold, None where they never do."""
    return first_at(lambda kind: [times & others for times, others in times_of_two(one, other, kind)], moment)
