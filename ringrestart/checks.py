"""The errors of invalid arguments. Every function calls these in the order of its arguments."""

from ringrestart.errors import (
    NoAssignment, NoDrops, NoNumber, NoObservation, NoOrder, NoRing, NoRound, NoServer, NoWeights)
from ringrestart.kinds import (
    assignment_ok, drops_ok, is_integer, is_ring, is_server, numbers_ok, observation_ok, order_ok, times_in,
    weights_ok)

MOST_ROUNDS = 20


def need_ring(n):
    if not is_ring(n):
        raise NoRing("a ring has from 2 to 60 servers")


def need_server(n, i):
    if not is_server(n, i):
        raise NoServer("a server is a number from 0 to n - 1")


def need_round(n, batches):
    """The times of the servers, which show that it is a round."""
    when = times_in(n, batches)
    if when is None:
        raise NoRound("a round is a list of two or more ascending batches with every server in exactly one")
    return when


def need_rounds(n, rounds):
    """The times of the servers in each of the rounds."""
    if not isinstance(rounds, list) or len(rounds) > MOST_ROUNDS:
        raise NoRound("several rounds are a list of at most 20 rounds")
    return [need_round(n, batches) for batches in rounds]


def need_numbers(n, numbers):
    if not numbers_ok(n, numbers):
        raise NoRound("the numbers of a round are a list of n integers that are not all equal")


def need_drops(n, drops):
    if not drops_ok(n, drops):
        raise NoDrops("drops are an ascending list of servers, neither empty nor all servers")


def need_assignment(n, assignment):
    if not assignment_ok(n, assignment):
        raise NoAssignment("an assignment is a list of n servers")


def need_observation(n, seen):
    if not observation_ok(n, seen):
        raise NoObservation("an observation is a list of n entries, each a server or None")


def need_weights(n, weights):
    if not weights_ok(n, weights):
        raise NoWeights("weights are a list of n integers from 0 to 10 ** 30")


def need_order(n, order):
    if not order_ok(n, order):
        raise NoOrder("an order is a list of all servers, each once")


def need_number(k, least, greatest):
    if not is_integer(k) or k < least or k > greatest:
        raise NoNumber("the number is out of its range")


def need_at_least(k, least):
    if not is_integer(k) or k < least:
        raise NoNumber("the number is out of its range")
