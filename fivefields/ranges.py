"""Ranges: the runs of numbers in a mask."""


def has(mask, number):
    """Whether a number is in a mask."""
    return (mask >> number) & 1 == 1


def lowest(mask):
    """The least number of a mask that isn't 0."""
    return (mask & -mask).bit_length() - 1


def starts_of(mask):
    """The numbers of a mask whose one-less is not in it, rising."""
    # Shifted up by one, the mask tells the next numbers of its own ones; so 0 needs no case of its own.
    nexts = mask << 1
    return [number for number in range(mask.bit_length()) if has(mask, number) and not has(nexts, number)]


def end_from(mask, start):
    """The last number of the run in a mask that begins with start."""
    end = start
    while has(mask, end + 1):
        end = end + 1
    return end


def ranges_of(mask):
    """All ranges of a mask, each as a tuple (first, last), rising."""
    return [(start, end_from(mask, start)) for start in starts_of(mask)]


def shown_range(first, last):
    """The text of one range."""
    if first == last:
        return str(first)
    return f"{first}-{last}"


def shown_ranges(mask):
    """The texts of a mask's ranges, parted by commas."""
    return ",".join([shown_range(first, last) for first, last in ranges_of(mask)])
