"""Fractions as the document writes them."""

from math import factorial, gcd


def share(part, whole):
    """The fraction part / whole in lowest terms, for a whole of at least 1."""
    # gcd(0, whole) is whole, so that zero becomes (0, 1).
    common = gcd(part, whole)
    return (part // common, whole // common)


def stop_share(steps, most):
    """The fraction of all orders in which a group stops after so many steps, if it can make so many at most.

    It makes k steps or more if the k servers from its own on are restarted in the direction of the ring: in one of k!
    orders. To make k steps, but no more, is the difference of two such fractions.
    """
    if steps > most:
        return (0, 1)
    if steps == most:
        return (1, factorial(most))
    # 1 / k! - 1 / (k + 1)! is k / (k + 1)!, and that is a fraction with 1 as its top.
    return (1, factorial(steps - 1) * (steps + 1))
