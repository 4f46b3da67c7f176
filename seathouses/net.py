"""The net between the houses, and the kinds of messages in it.

A message is a tuple: its kind, the sale's reseller and number, and what the kind tells besides:
ask the flight and the seats, can nothing, st the version and how the sale stands, ack the version.
"""

ASK = 0
CAN = 1
ST = 2
ACK = 3


class Net:
    """The messages on their way, and how many were ever sent."""

    def __init__(self):
        self.messages = []
        self.sent = 0

    def send(self, message):
        """Puts the message at the end."""
        self.messages.append(message)
        self.sent = self.sent + 1

    def has(self, k):
        """Whether there is a message k, counted from 0."""
        return k < len(self.messages)

    def take(self, k):
        """Takes message k out and gives it back."""
        return self.messages.pop(k)

    def take_all(self):
        """Takes all messages out and gives them back, the first one first."""
        taken = self.messages
        self.messages = []
        return taken
