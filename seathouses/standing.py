"""How a sale stands."""

UNSEEN = 0
HELD = 1
WAITING = 2
REFUSED = 3
GIVEN_UP = 4
WITHDRAWN = 5


def is_final(stands):
    """Whether a sale that stands so can never stand otherwise."""
    return stands in (REFUSED, GIVEN_UP, WITHDRAWN)
