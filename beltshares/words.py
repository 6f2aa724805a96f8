"""Words that write numbers."""

FIGURES = "0123456789"
MOST_FIGURES = 30


def number_from(word):
    """The number that a word writes, or None where it writes none."""
    # The length first, so that no word is too long for int.
    if not 1 <= len(word) <= MOST_FIGURES:
        return None
    if not all([sign in FIGURES for sign in word]):
        return None
    if word[0] == "0" and len(word) > 1:
        return None
    return int(word)
