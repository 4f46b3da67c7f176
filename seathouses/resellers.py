"""The resellers: the houses that sell seats, each knowing only what it was told."""

from seathouses.net import ACK, ASK, CAN
from seathouses.standing import UNSEEN, is_final


class OwnSale:
    """A sale as its reseller keeps it."""

    def __init__(self, r, no, f, seats):
        self.r = r
        self.no = no
        self.f = f
        self.seats = seats
        self.unwanted = False
        self.seen = 0
        self.stood = UNSEEN


class Resellers:
    """The sales of all resellers by (r, no), in the order in which they were made."""

    def __init__(self, net):
        self.net = net
        self.sales = {}

    def ask(self, sale):
        """Sends ask of the sale."""
        self.net.send((ASK, sale.r, sale.no, sale.f, sale.seats))

    def cancel(self, sale):
        """Sends can of the sale."""
        self.net.send((CAN, sale.r, sale.no))

    def sell(self, r, f, seats):
        """Makes a sale, asks for its seats, and gives back its number."""
        no = len([sale for sale in self.sales.values() if sale.r == r]) + 1
        sale = OwnSale(r, no, f, seats)
        self.sales[(r, no)] = sale
        self.ask(sale)
        return no

    def give_up(self, sale):
        """Wants to give the sale up from now on."""
        sale.unwanted = True
        self.cancel(sale)

    def hear_st(self, r, no, version, stands):
        """What st does here."""
        sale = self.sales[(r, no)]
        # A message that was overtaken by a later one tells nothing new.
        if version > sale.seen:
            sale.seen = version
            sale.stood = stands
        self.net.send((ACK, r, no, sale.seen))

    def say_again(self):
        """Sends can or ask of each sale for which it may have been lost."""
        for sale in list(self.sales.values()):
            if sale.unwanted and not is_final(sale.stood):
                self.cancel(sale)
            elif sale.seen == 0:
                self.ask(sale)
