"""Masks, and the texts of fields that tell them."""

from fivefields.errors import NoField
from fivefields.figures import is_written
from fivefields.ranges import has, shown_ranges

MOST_SIGNS = 300
MOST_ITEMS = 40
MOST_STRIDE = 99


def mask_of(numbers):
    """The mask of a list of numbers, in whatever order, each perhaps several times."""
    mask = 0
    for number in numbers:
        mask = mask | (1 << number)
    return mask


def numbers_in(mask):
    """The numbers of a mask, rising."""
    return [number for number in range(mask.bit_length()) if has(mask, number)]


def run_mask(first, last, stride):
    """The mask of every stride-th number from first to last, from the first one on."""
    return mask_of(list(range(first, last + 1, stride)))


def read_number(text, low, high):
    """The number from low to high that a text is, None where it is none."""
    if not is_written(text):
        return None
    number = int(text)
    if low <= number <= high:
        return number
    return None


def read_run(text, low, high):
    """The first and the last number of `*`, `N` or `A-B`, as a tuple, None where a text is of none of these forms."""
    if text == "*":
        return (low, high)
    ends = [read_number(end, low, high) for end in text.split("-")]
    if len(ends) > 2 or None in ends or ends[0] > ends[-1]:
        return None
    return (ends[0], ends[-1])


def read_strided(run_text, stride_text, low, high):
    """The mask of an item with a stride, None where it is of no form."""
    run = read_run(run_text, low, high)
    stride = read_number(stride_text, 1, MOST_STRIDE)
    if run is None or stride is None:
        return None
    # A number by itself begins a run that goes on to the high one.
    last = high if is_written(run_text) else run[1]
    return run_mask(run[0], last, stride)


def read_item(item, low, high):
    """The mask of what an item tells, None where it is of none of the six forms."""
    parts = item.split("/")
    if len(parts) == 2:
        return read_strided(parts[0], parts[1], low, high)
    # An item with several strokes is no run either, so it needs no case of its own.
    run = read_run(item, low, high)
    if run is None:
        return None
    return run_mask(run[0], run[1], 1)


def read_field(text, low, high):
    """The mask of what a field's text tells; refused with NoField, at the place of the first wrong item."""
    if not isinstance(text, str) or len(text) > MOST_SIGNS:
        raise NoField(0)
    items = text.split(",")
    mask = 0
    for place, item in enumerate(items[:MOST_ITEMS]):
        told = read_item(item, low, high)
        if told is None:
            raise NoField(place)
        mask = mask | told
    if len(items) > MOST_ITEMS:
        raise NoField(MOST_ITEMS)
    return mask


def shown_field(mask, low, high):
    """The text of a mask, not 0, of numbers from low to high."""
    if mask == run_mask(low, high, 1):
        return "*"
    return shown_ranges(mask)
