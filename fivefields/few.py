"""Few rows for the times of a day, and pairs that show how few rows there can be."""

from fivefields.fields import mask_of, numbers_in
from fivefields.moments import HOUR_MINUTES
from fivefields.ranges import has, lowest

DAY_HOURS = 24


def hours_masks(times):
    """The mask of minutes that each hour has in times."""
    whole_hour = (1 << HOUR_MINUTES) - 1
    return [(times >> (HOUR_MINUTES * hour)) & whole_hour for hour in range(DAY_HOURS)]


def turned_masks(masks, many):
    """For each number below many, the mask of the places in a list at which a mask has it."""
    return [mask_of([place for place, mask in enumerate(masks) if has(mask, number)]) for number in range(many)]


def lies_within(mask, other):
    """Whether all numbers of a mask are in another one."""
    return mask & other == mask


def made_within(mask, masks):
    """What those masks of a list come to together that lie within a mask and aren't it."""
    together = 0
    for other in masks:
        if other != mask and lies_within(other, mask):
            together = together | other
    return together


def not_made(masks):
    """The unlike masks of a list that are not made of others; so never 0, which is made of none."""
    return [mask for mask in sorted(set(masks)) if made_within(mask, masks) != mask]


def places_around(mask, masks):
    """The mask of the places in a list at which a mask lies around this one."""
    return mask_of([place for place, other in enumerate(masks) if lies_within(mask, other)])


def fewer_rows(by_hour, by_minute):
    """The rows for some times, one for each hours' or each minutes' mask that is not made."""
    # A mask comes to what the masks that are not made come to within it, so either list of rows comes to all times.
    of_hours = [(places_around(mask, by_hour), mask) for mask in not_made(by_hour)]
    of_minutes = [(mask, places_around(mask, by_minute)) for mask in not_made(by_minute)]
    return of_hours if len(of_hours) <= len(of_minutes) else of_minutes


def own_pair(mask, by_hour):
    """A pair of an hour whose mask is this one, not made, with a minute that no mask within it has."""
    own = mask & ~made_within(mask, by_hour)
    return (by_hour.index(mask), lowest(own))


def candidates(by_hour):
    """All pairs of some times, some of them twice, in the order in which they are tried."""
    # Where hours' masks lie within one another or apart, the own pairs stand together: one for each row.
    pairs = [own_pair(mask, by_hour) for mask in not_made(by_hour)]
    for hour, mask in enumerate(by_hour):
        pairs.extend([(hour, minute) for minute in numbers_in(mask)])
    return pairs


def fit_one_row(pair, other, by_hour):
    """Whether a row within the times could have both of two pairs."""
    return has(by_hour[pair[0]], other[1]) and has(by_hour[other[0]], pair[1])


def apart_pairs(by_hour):
    """Pairs of which no two fit one row, and beside which no other one could stand."""
    pairs = []
    for pair in candidates(by_hour):
        if not any([fit_one_row(pair, other, by_hour) for other in pairs]):
            pairs.append(pair)
    return pairs


def rows_for(times):
    """The tuple (rows, pairs) for the times of a day."""
    by_hour = hours_masks(times)
    by_minute = turned_masks(by_hour, HOUR_MINUTES)
    return (fewer_rows(by_hour, by_minute), apart_pairs(by_hour))
