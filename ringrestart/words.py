"""Words of texts that are numbers."""


def number_in(word, digits):
    """The number that a word of at most so many digits is, without leading zeros; None if it is none."""
    if len(word) > digits or not word.isascii() or not word.isdigit():
        return None
    if len(word) > 1 and word.startswith("0"):
        return None
    return int(word)
