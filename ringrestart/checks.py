"""The errors of invalid arguments. Every function calls these in the order of its arguments."""

from ringrestart.errors import NoAssignment, NoDrops, NoNumber, NoRing, NoRound, NoServer
from ringrestart.kinds import assignment_ok, drops_ok, is_integer, is_ring, is_server, numbers_ok, round_ok


def need_ring(n):
    if not is_ring(n):
        raise NoRing("a ring has from 2 to 60 servers")


def need_server(n, i):
    if not is_server(n, i):
        raise NoServer("a server is a number from 0 to n - 1")


def need_round(n, batches):
    if not round_ok(n, batches):
        raise NoRound("a round is a list of two or more ascending batches with every server in exactly one")


def need_numbers(n, numbers):
    if not numbers_ok(n, numbers):
        raise NoRound("the numbers of a round are a list of n integers that are not all equal")


def need_drops(n, drops):
    if not drops_ok(n, drops):
        raise NoDrops("drops are an ascending list of servers, neither empty nor all servers")


def need_assignment(n, assignment):
    if not assignment_ok(n, assignment):
        raise NoAssignment("an assignment is a list of n servers")


def need_number(k, least, greatest):
    if not is_integer(k) or k < least or k > greatest:
        raise NoNumber("the number is out of its range")
