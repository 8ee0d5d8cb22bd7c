"""Fractions as the document writes them."""

from math import gcd


def share(part, whole):
    """The fraction part / whole in lowest terms, for a whole of at least 1."""
    # gcd(0, whole) is whole, so that zero becomes (0, 1).
    common = gcd(part, whole)
    return (part // common, whole // common)
