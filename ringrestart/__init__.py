"""Rolling restarts of servers in a ring: where the clients end, and which ends are possible."""
