"""What must hold of every line of calls, over lines that are made the same way each time."""

import random
import unittest

from seathouses.calls import Houses
from seathouses.houses import answer
from tests.helper import AGAIN, HELD, deliver, joined, run

PLACES = (0, 1, 1, 2, 3, 3, 3, 3, 4, 4, 5, 5, 5, 5, 5, 5, 5, 6, 7, 8)

SENDS_ONE = (3, 4, 7)
TAKES_ONE = (5, 6)
TELLS_HOW_MANY = (1, 2, 5, 8)


def random_call(source):
    place = source.choice(PLACES)
    f = source.randint(1, 3)
    if place in (0, 1):
        return [place, f, source.randint(0, 20)]
    if place == 2:
        # Seldom, so that not all flights are shut soon.
        return [2, f] if source.random() < 0.1 else [2, 4]
    if place == 3:
        return [3, source.randint(0, 3), f, source.randint(1, 9)]
    if place == 4:
        return [4, source.randint(0, 3), source.randint(1, 6)]
    if place == 8:
        return [8]
    return [place, source.randint(0, 12)]


def random_lines():
    for seed in range(80):
        source = random.Random(seed)
        yield [random_call(source) for k in range(200)]


def call(houses, numbers):
    return answer(houses, numbers[0], numbers[1:])


def net_growth(place, told):
    growth = told[1] if place in TELLS_HOW_MANY else 0
    return growth + (place in SENDS_ONE) - (place in TAKES_ONE)


class LinesTest(unittest.TestCase):
    def test_the_net_grows_as_the_answers_say(self):
        for calls in random_lines():
            houses = Houses()
            size = 0
            for numbers in calls:
                told = call(houses, numbers)
                if told[0] == 0:
                    size += net_growth(numbers[0], told)
                else:
                    self.assertEqual(len(told), 1)
                self.assertEqual(len(houses.net.messages), size)

    def test_no_seat_is_sold_twice(self):
        for calls in random_lines():
            houses = Houses()
            for numbers in calls:
                call(houses, numbers)
                for f, kept in houses.inventory.flights.items():
                    held = [sale.seats for sale in houses.inventory.kept.values() if (sale.f, sale.stands) == (f, HELD)]
                    self.assertLessEqual(sum(held), 0 if kept.shut else kept.cap)

    def test_all_think_the_same_when_the_net_is_calm(self):
        for calls in random_lines():
            houses = Houses()
            for numbers in calls:
                call(houses, numbers)
            call(houses, AGAIN)
            while call(houses, deliver(0)) != [-4]:
                pass
            self.assertEqual(call(houses, AGAIN), [0, 0])
            self.assertEqual(list(houses.inventory.kept.keys() ^ houses.resellers.sales.keys()), [])
            for key, sale in houses.resellers.sales.items():
                kept = houses.inventory.kept[key]
                self.assertEqual((sale.seen, sale.stood, kept.known), (kept.version, kept.stands, kept.version))
                self.assertTrue(kept.stands in (3, 4, 5) or not sale.unwanted)

    def test_a_line_as_a_list_answers_as_its_calls_do(self):
        for calls in random_lines():
            houses = Houses()
            self.assertEqual(run(*calls), [call(houses, numbers) for numbers in calls])
            self.assertLessEqual(len(joined(calls)), 25000)


if __name__ == "__main__":
    unittest.main()
