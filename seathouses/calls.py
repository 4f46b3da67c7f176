"""The calls: each takes the houses and its numbers, which are within their ranges, and answers a list."""

from seathouses.inventory import Flight, Inventory
from seathouses.net import ST, Net
from seathouses.resellers import Resellers
from seathouses.standing import is_final

NO_SUCH_CALL = -1
NO_SUCH_FLIGHT = -3
NO_SUCH_SALE_OR_MESSAGE = -4
THERE_ALREADY = -5
FULL = -6
NOT_AS_IT_MUST_BE = -7

MOST_FLIGHTS = 12
MOST_SALES = 40
FULL_NET = 200


class Houses:
    """All houses and the net between them."""

    def __init__(self):
        self.net = Net()
        self.inventory = Inventory(self.net)
        self.resellers = Resellers(self.net)


def change_refused(inventory, f):
    """The refusal where a flight can't be changed, else 0."""
    if f not in inventory.flights:
        return NO_SUCH_FLIGHT
    if inventory.flights[f].shut:
        return NOT_AS_IT_MUST_BE
    return 0


def call_flight(houses, numbers):
    """0: f, cap."""
    flights = houses.inventory.flights
    if numbers[0] in flights:
        return [THERE_ALREADY]
    if len(flights) >= MOST_FLIGHTS:
        return [FULL]
    flights[numbers[0]] = Flight(numbers[1])
    return [0]


def call_cap(houses, numbers):
    """1: f, cap."""
    refusal = change_refused(houses.inventory, numbers[0])
    if refusal != 0:
        return [refusal]
    before = houses.net.sent
    houses.inventory.change_cap(numbers[0], numbers[1])
    return [0, houses.net.sent - before]


def call_shut(houses, numbers):
    """2: f."""
    refusal = change_refused(houses.inventory, numbers[0])
    if refusal != 0:
        return [refusal]
    before = houses.net.sent
    houses.inventory.shut_flight(numbers[0])
    return [0, houses.net.sent - before]


def call_sell(houses, numbers):
    """3: r, f, n."""
    if len(houses.resellers.sales) >= MOST_SALES:
        return [FULL]
    return [0, houses.resellers.sell(numbers[0], numbers[1], numbers[2])]


def call_give_up(houses, numbers):
    """4: r, no."""
    sale = houses.resellers.sales.get((numbers[0], numbers[1]))
    if sale is None:
        return [NO_SUCH_SALE_OR_MESSAGE]
    if sale.unwanted or is_final(sale.stood):
        return [NOT_AS_IT_MUST_BE]
    houses.resellers.give_up(sale)
    return [0]


def bring(houses, message):
    """Lets a message do what it does where it comes to."""
    if message[0] == ST:
        houses.resellers.hear_st(message[1], message[2], message[3], message[4])
    else:
        houses.inventory.hear(message)


def call_deliver(houses, numbers):
    """5: k."""
    if not houses.net.has(numbers[0]):
        return [NO_SUCH_SALE_OR_MESSAGE]
    before = houses.net.sent
    bring(houses, houses.net.take(numbers[0]))
    return [0, houses.net.sent - before]


def call_lose(houses, numbers):
    """6: k."""
    if not houses.net.has(numbers[0]):
        return [NO_SUCH_SALE_OR_MESSAGE]
    houses.net.take(numbers[0])
    return [0]


def call_double(houses, numbers):
    """7: k."""
    if not houses.net.has(numbers[0]):
        return [NO_SUCH_SALE_OR_MESSAGE]
    if len(houses.net.messages) >= FULL_NET:
        return [FULL]
    houses.net.send(houses.net.messages[numbers[0]])
    return [0]


def say_again(houses):
    """Lets all houses say again what is to be said, the resellers first."""
    houses.resellers.say_again()
    houses.inventory.say_again()


def call_again(houses, numbers):
    """8: no numbers."""
    before = houses.net.sent
    say_again(houses)
    return [0, houses.net.sent - before]


CALLS = (
    call_flight,
    call_cap,
    call_shut,
    call_sell,
    call_give_up,
    call_deliver,
    call_lose,
    call_double,
    call_again,
)
