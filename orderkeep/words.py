"""Rows of words: a first word, and names behind it."""

from orderkeep.names import is_name


def has_names(words, bounds):
    # Bounds are the least and the most number of names, None for no most; None of a first word that is none.
    if bounds is None or len(words) - 1 < bounds[0]:
        return False
    if bounds[1] is not None and len(words) - 1 > bounds[1]:
        return False
    return all([is_name(word) for word in words[1:]])
