"""What the tests share: the calls in words, and ways to look at what they did."""

from seathouses.calls import Houses
from seathouses.houses import answer, answers, taken_apart
from seathouses.net import ACK, ASK, CAN, ST  # noqa: F401 (the tests take them from here)

HELD, WAITING, REFUSED, GIVEN_UP, WITHDRAWN = 1, 2, 3, 4, 5


def flight(f, cap):
    return [0, f, cap]


def cap(f, seats):
    return [1, f, seats]


def shut(f):
    return [2, f]


def sell(r, f, n):
    return [3, r, f, n]


def give_up(r, no):
    return [4, r, no]


def deliver(k):
    return [5, k]


def lose(k):
    return [6, k]


def double(k):
    return [7, k]


AGAIN = [8]
CALM = [9]


def view(r, no):
    return [10, r, no]


def truth(r, no):
    return [11, r, no]


def seats(f):
    return [12, f]


def line(f):
    return [13, f]


NET = [14]


def text(k):
    return [15, k]


def read(signs):
    """The call read of a text, which may be written as signs or as a list of numbers."""
    numbers = [ord(sign) for sign in signs] if isinstance(signs, str) else list(signs)
    return [16, len(numbers), *numbers]


SETTLED = [17]


def joined(calls):
    return [number for call in calls for number in call]


def parted(numbers):
    """The answers, each as a list of its own."""
    parts = []
    at = 0
    while at < len(numbers):
        size = numbers[at]
        parts.append(numbers[at + 1:at + 1 + size])
        at += 1 + size
    if at != len(numbers):
        raise AssertionError("an answer is shorter than its count")
    return parts


def run(*calls):
    """What each of the calls answers."""
    return parted(answers(joined(calls)))


def last(*calls):
    """What the last of the calls answers."""
    return run(*calls)[-1]


def after(*calls):
    """The houses as they are behind the calls, none of which may be refused."""
    houses = Houses()
    for place, numbers in taken_apart(joined(calls)):
        told = answer(houses, place, numbers)
        if told[0] != 0:
            raise AssertionError(f"{place} {numbers} answers {told}")
    return houses


def messages(*calls):
    """The net behind the calls."""
    return after(*calls).net.messages


def texts(*calls):
    """The texts of all messages in the net behind the calls, as signs."""
    size = last(*calls, NET)[1]
    told = [last(*calls, text(k)) for k in range(size)]
    return [bytes(numbers[1:]).decode("ascii") for numbers in told]


def standings(*calls):
    """How each sale stands at the inventory behind the calls, in the inventory's order."""
    kept = after(*calls).inventory.kept
    return [(key, sale.stands) for key, sale in kept.items()]


def heard(r, f, n):
    """A sale whose ask is delivered and whose st and ack are lost, in a net that was empty."""
    return [*sell(r, f, n), *deliver(0), *lose(0)]


def agreed(r, f, n):
    """A sale whose ask, st and ack are all delivered, in a net that was empty."""
    return [*sell(r, f, n), *deliver(0), *deliver(0), *deliver(0)]
