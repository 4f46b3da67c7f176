"""Takes a list of calls apart and answers them, one behind another."""

from seathouses.calls import CALLS, Houses

OUT_OF_RANGE = -2

READ = 16
LONGEST_TEXT = 100
GREATEST_BYTE = 255

# By the call's place: the least and the greatest that each of its whole numbers may be.
RANGES = (
    ((1, 9999), (0, 999)),
    ((1, 9999), (0, 999)),
    ((1, 9999),),
    ((0, 3), (1, 9999), (1, 9)),
    ((0, 3), (1, 999)),
    ((0, 999999),),
    ((0, 999999),),
    ((0, 999999),),
    (),
    (),
    ((0, 3), (1, 999)),
    ((0, 3), (1, 999)),
    ((1, 9999),),
    ((1, 9999),),
    (),
    ((0, 999999),),
    (),
    (),
)


def taken_apart(calls):
    """Each call as its place and a list of its numbers, which for read are its text."""
    parts = []
    at = 0
    while at < len(calls):
        place = calls[at]
        begin = at + 1
        size = len(RANGES[place])
        if place == READ:
            size = calls[begin]
            begin = begin + 1
        at = begin + size
        parts.append((place, calls[begin:at]))
    return parts


def is_text(numbers):
    """Whether the numbers are bytes, and not too many."""
    if len(numbers) > LONGEST_TEXT:
        return False
    return all([number >= 0 and number <= GREATEST_BYTE for number in numbers])


def within_ranges(place, numbers):
    """Whether each of the call's numbers is within its range, and a text not too long."""
    if place == READ:
        return is_text(numbers)
    for number, bounds in zip(numbers, RANGES[place]):
        if number < bounds[0] or number > bounds[1]:
            return False
    return True


def answer(houses, place, numbers):
    """What one call answers."""
    if not within_ranges(place, numbers):
        return [OUT_OF_RANGE]
    return CALLS[place](houses, numbers)


def answers(calls):
    """The answers of all calls on new houses: for each how many numbers it has, and then these."""
    houses = Houses()
    given = []
    for place, numbers in taken_apart(calls):
        told = answer(houses, place, numbers)
        given.append(len(told))
        given.extend(told)
    return given
