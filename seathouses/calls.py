"""The calls: each takes the houses and its numbers, which are within their ranges, and answers a list."""

from seathouses.inventory import Flight, Inventory
from seathouses.net import ST, Net
from seathouses.resellers import Resellers
from seathouses.standing import WAITING, is_final
from seathouses.texts import read_text, written

NO_SUCH_FLIGHT = -3
NO_SUCH_SALE_OR_MESSAGE = -4
THERE_ALREADY = -5
FULL = -6
NOT_AS_IT_MUST_BE = -7
NO_MESSAGES_TEXT = -8

MOST_FLIGHTS = 12
MOST_SALES = 40
FULL_NET = 200


class Houses:
    """All houses and the net between them."""

    def __init__(self):
        self.net = Net()
        self.inventory = Inventory(self.net)
        self.resellers = Resellers(self.net)


def change_refused(inventory, f):
    """The refusal where a flight can't be changed, else 0."""
    if f not in inventory.flights:
        return NO_SUCH_FLIGHT
    if inventory.flights[f].shut:
        return NOT_AS_IT_MUST_BE
    return 0


def call_flight(houses, numbers):
    """0: f, cap."""
    flights = houses.inventory.flights
    if numbers[0] in flights:
        return [THERE_ALREADY]
    if len(flights) >= MOST_FLIGHTS:
        return [FULL]
    flights[numbers[0]] = Flight(numbers[1])
    return [0]


def call_cap(houses, numbers):
    """1: f, cap."""
    refusal = change_refused(houses.inventory, numbers[0])
    if refusal != 0:
        return [refusal]
    before = houses.net.sent
    houses.inventory.change_cap(numbers[0], numbers[1])
    return [0, houses.net.sent - before]


def call_shut(houses, numbers):
    """2: f."""
    refusal = change_refused(houses.inventory, numbers[0])
    if refusal != 0:
        return [refusal]
    before = houses.net.sent
    houses.inventory.shut_flight(numbers[0])
    return [0, houses.net.sent - before]


def call_sell(houses, numbers):
    """3: r, f, n."""
    if len(houses.resellers.sales) >= MOST_SALES:
        return [FULL]
    return [0, houses.resellers.sell(numbers[0], numbers[1], numbers[2])]


def call_give_up(houses, numbers):
    """4: r, no."""
    sale = houses.resellers.sales.get((numbers[0], numbers[1]))
    if sale is None:
        return [NO_SUCH_SALE_OR_MESSAGE]
    if sale.unwanted or is_final(sale.stood):
        return [NOT_AS_IT_MUST_BE]
    houses.resellers.give_up(sale)
    return [0]


def bring(houses, message):
    """Lets a message do what it does where it comes to."""
    if message[0] == ST:
        houses.resellers.hear_st(message[1], message[2], message[3], message[4])
    else:
        houses.inventory.hear(message)


def call_deliver(houses, numbers):
    """5: k."""
    if not houses.net.has(numbers[0]):
        return [NO_SUCH_SALE_OR_MESSAGE]
    before = houses.net.sent
    bring(houses, houses.net.take(numbers[0]))
    return [0, houses.net.sent - before]


def call_lose(houses, numbers):
    """6: k."""
    if not houses.net.has(numbers[0]):
        return [NO_SUCH_SALE_OR_MESSAGE]
    houses.net.take(numbers[0])
    return [0]


def call_double(houses, numbers):
    """7: k."""
    if not houses.net.has(numbers[0]):
        return [NO_SUCH_SALE_OR_MESSAGE]
    if len(houses.net.messages) >= FULL_NET:
        return [FULL]
    houses.net.send(houses.net.messages[numbers[0]])
    return [0]


def say_again(houses):
    """Lets all houses say again what is to be said, the resellers first."""
    houses.resellers.say_again()
    houses.inventory.say_again()


def call_again(houses, numbers):
    """8: no numbers."""
    before = houses.net.sent
    say_again(houses)
    return [0, houses.net.sent - before]


def call_calm(houses, numbers):
    """9: no numbers."""
    say_again(houses)
    delivered = 0
    while houses.net.has(0):
        # All at once in the place of one by one: what is sent meanwhile comes behind these in either case.
        for message in houses.net.take_all():
            bring(houses, message)
            delivered = delivered + 1
    return [0, delivered]


def call_view(houses, numbers):
    """10: r, no."""
    sale = houses.resellers.sales.get((numbers[0], numbers[1]))
    if sale is None:
        return [NO_SUCH_SALE_OR_MESSAGE]
    return [0, sale.seen, sale.stood, 1 if sale.unwanted else 0, sale.f, sale.seats]


def call_truth(houses, numbers):
    """11: r, no."""
    sale = houses.inventory.kept.get((numbers[0], numbers[1]))
    if sale is None:
        return [NO_SUCH_SALE_OR_MESSAGE]
    return [0, sale.version, sale.stands, sale.known]


def call_seats(houses, numbers):
    """12: f."""
    flight = houses.inventory.flights.get(numbers[0])
    if flight is None:
        return [NO_SUCH_FLIGHT]
    return [0, flight.cap, houses.inventory.held_on(numbers[0]), 1 if flight.shut else 0]


def call_line(houses, numbers):
    """13: f."""
    if numbers[0] not in houses.inventory.flights:
        return [NO_SUCH_FLIGHT]
    told = [0]
    for sale in houses.inventory.sales_that(numbers[0], WAITING):
        told.extend([sale.r, sale.no, sale.seats])
    return told


def call_net(houses, numbers):
    """14: no numbers."""
    return [0, len(houses.net.messages)]


def call_text(houses, numbers):
    """15: k."""
    if not houses.net.has(numbers[0]):
        return [NO_SUCH_SALE_OR_MESSAGE]
    return [0] + written(houses.net.messages[numbers[0]])


def call_read(houses, numbers):
    """16: the bytes of a text."""
    told = read_text(numbers)
    if told is None:
        return [NO_MESSAGES_TEXT]
    return [0] + told


def is_settled(own, kept):
    """Whether both houses think the same of a sale, know that they do, and no wish to give it up is left."""
    if kept is None:
        return False
    if own.seen != kept.version or own.stood != kept.stands or kept.known != kept.version:
        return False
    return is_final(kept.stands) or not own.unwanted


def call_settled(houses, numbers):
    """17: no numbers."""
    for key, own in houses.resellers.sales.items():
        if not is_settled(own, houses.inventory.kept.get(key)):
            return [0, 0]
    return [0, 1]


CALLS = (
    call_flight,
    call_cap,
    call_shut,
    call_sell,
    call_give_up,
    call_deliver,
    call_lose,
    call_double,
    call_again,
    call_calm,
    call_view,
    call_truth,
    call_seats,
    call_line,
    call_net,
    call_text,
    call_read,
    call_settled,
)
