"""Numbers as they stand in texts."""

MOST_FIGURES = 15


def are_figures(word, most):
    """Whether the word is figures alone, one at least and at most so many."""
    # Python's int() refuses texts of very many figures, so the length is asked first.
    return len(word) <= most and word.isascii() and word.isdigit()


def is_number(word):
    """Whether the word writes a number of a row: figures without a nought ahead."""
    return are_figures(word, MOST_FIGURES) and str(int(word)) == word


def parts_in(number, units):
    """The number as (many, unit), of each unit that it has some of; units from the greatest on to what they are."""
    parts = []
    left = number
    for unit, worth in units.items():
        many, left = divmod(left, worth)
        if many > 0:
            parts.append((many, unit))
    return parts
