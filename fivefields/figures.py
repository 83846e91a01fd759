"""Numbers as texts, written in figures 0 to 9."""

FIGURES = "0123456789"
# str writes a number of a few thousand figures at most, so longer ones are written in parts of this many figures.
PART_FIGURES = 60


def all_figures(text):
    """Whether a text has one sign at least and nothing but figures."""
    return text != "" and all([sign in FIGURES for sign in text])


def is_written(text):
    """Whether a text is a number from 0 on, in figures without a nought ahead."""
    return all_figures(text) and (text == "0" or text[0] != "0")


def written(number):
    """The figures of a number from 0 on, however many they are."""
    parts = []
    while number >= 10 ** 60:
        parts.append(str(number % 10 ** 60).zfill(PART_FIGURES))
        number = number // 10 ** 60
    parts.append(str(number))
    return "".join(reversed(parts))
