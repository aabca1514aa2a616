"""Numbers as they stand in texts."""


def are_figures(word, most):
    """Whether the word is figures alone, one at least and at most so many."""
    # Python's int() refuses texts of very many figures, so the length is asked first.
    return len(word) <= most and word.isascii() and word.isdigit()
