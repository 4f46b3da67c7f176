"""The inventory: the house that keeps the flights and decides how each sale stands."""

from seathouses.net import ACK, ASK, CAN, ST
from seathouses.standing import GIVEN_UP, HELD, REFUSED, WAITING, WITHDRAWN, is_final

MOST_WAITING = 6


class Flight:
    """A flight's seats, and whether it is shut."""

    def __init__(self, cap):
        self.cap = cap
        self.shut = False


class KeptSale:
    """A sale as the inventory keeps it."""

    def __init__(self, r, no, f, seats, stands):
        self.r = r
        self.no = no
        self.f = f
        self.seats = seats
        self.stands = stands
        self.version = 1
        self.known = 0


class Inventory:
    """The flights by number, and the sales by (r, no) in the order in which they were heard of first."""

    def __init__(self, net):
        self.net = net
        self.flights = {}
        self.kept = {}

    def sales_that(self, f, stands):
        """The flight's sales that stand so, in the inventory's order, as a list of its own."""
        return [sale for sale in self.kept.values() if sale.f == f and sale.stands == stands]

    def held_on(self, f):
        """The seats of all the flight's sales that are held."""
        return sum([sale.seats for sale in self.sales_that(f, HELD)])

    def sells(self, f):
        """Whether there is such a flight and it is not shut."""
        return f in self.flights and not self.flights[f].shut

    def room(self, f):
        """How many seats of the flight are free."""
        if not self.sells(f):
            return 0
        return self.flights[f].cap - self.held_on(f)

    def tell(self, sale):
        """Sends st of the sale as it stands now."""
        self.net.send((ST, sale.r, sale.no, sale.version, sale.stands))

    def keep(self, r, no, f, seats, stands):
        """Begins to keep a sale."""
        sale = KeptSale(r, no, f, seats, stands)
        self.kept[(r, no)] = sale
        self.tell(sale)

    def turn(self, sale, stands):
        """Lets a kept sale stand otherwise than before."""
        sale.stands = stands
        sale.version = sale.version + 1
        self.tell(sale)

    def clear_flight(self, f):
        """Holds each waiting sale that finds room when its turn comes."""
        for sale in self.sales_that(f, WAITING):
            # Asked anew for each sale: one that became held has taken of the room.
            if sale.seats <= self.room(f):
                self.turn(sale, HELD)

    def take_back(self, f):
        """Withdraws held sales, those heard of last first, until the seats are enough."""
        for sale in reversed(self.sales_that(f, HELD)):
            if self.held_on(f) > self.flights[f].cap:
                self.turn(sale, WITHDRAWN)

    def change_cap(self, f, cap):
        """Gives a flight that is not shut another number of seats."""
        self.flights[f].cap = cap
        self.take_back(f)
        self.clear_flight(f)

    def shut_flight(self, f):
        """Shuts the flight and withdraws its sales that are not final."""
        self.flights[f].shut = True
        for sale in list(self.kept.values()):
            if sale.f == f and not is_final(sale.stands):
                self.turn(sale, WITHDRAWN)

    def standing_at_first(self, f, seats):
        """How a sale that is asked for now begins to stand."""
        if not self.sells(f):
            return REFUSED
        if seats <= self.room(f):
            return HELD
        if len(self.sales_that(f, WAITING)) < MOST_WAITING:
            return WAITING
        return REFUSED

    def hear_ask(self, r, no, f, seats):
        """What ask does here."""
        sale = self.kept.get((r, no))
        if sale is None:
            self.keep(r, no, f, seats, self.standing_at_first(f, seats))
        else:
            self.tell(sale)

    def hear_can(self, r, no):
        """What can does here."""
        sale = self.kept.get((r, no))
        if sale is None:
            # Kept although nothing was asked for, so that an ask that comes late finds it given up.
            self.keep(r, no, 0, 0, GIVEN_UP)
        elif is_final(sale.stands):
            self.tell(sale)
        else:
            self.turn(sale, GIVEN_UP)
            self.clear_flight(sale.f)

    def hear_ack(self, r, no, version):
        """What ack does here."""
        sale = self.kept[(r, no)]
        if sale.known < version and version <= sale.version:
            sale.known = version

    def hear(self, message):
        """Does what a message to the inventory does."""
        if message[0] == ASK:
            self.hear_ask(message[1], message[2], message[3], message[4])
        elif message[0] == CAN:
            self.hear_can(message[1], message[2])
        elif message[0] == ACK:
            self.hear_ack(message[1], message[2], message[3])

    def say_again(self):
        """Sends st of each sale of which the reseller may not have seen how it stands."""
        for sale in list(self.kept.values()):
            if sale.known < sale.version:
                self.tell(sale)
