"""What must hold of every line of calls, over lines that are made the same way each time."""

import random
import unittest

from seathouses.calls import Houses
from seathouses.houses import answer, answers
from tests.helper import AGAIN, CALM, HELD, NET, SETTLED, deliver, joined, line, read, run, seats, text, truth, view

PLACES = (0, 1, 1, 2, 3, 3, 3, 3, 4, 4, 5, 5, 5, 5, 5, 5, 5, 6, 7, 8)
ALL_PLACES = PLACES * 2 + (9, *range(10, 18), *range(10, 18))

SENDS_ONE = (3, 4, 7)
TAKES_ONE = (5, 6)
TELLS_HOW_MANY = (1, 2, 5, 8)
ONLY_LOOK = range(10, 18)

TEXTS = ("ASK 0 1 7 3", "CAN 3 40", "ST 1 2 3 W", "ACK 2 10 2", "ACK 2 10 02", "", "st 1 2 3 W", "CAN 3 40 ")


def random_call(source, places=PLACES):
    place = source.choice(places)
    f = source.randint(1, 3)
    if place in (0, 1):
        return [place, f, source.randint(0, 20)]
    if place == 2:
        # Seldom, so that not all flights are shut soon.
        return [2, f] if source.random() < 0.1 else [2, 4]
    if place == 3:
        return [3, source.randint(0, 3), f, source.randint(1, 9)]
    if place in (4, 10, 11):
        return [place, source.randint(0, 3), source.randint(1, 6)]
    if place in (8, 9, 14, 17):
        return [place]
    if place in (12, 13):
        return [place, source.randint(1, 4)]
    if place == 16:
        return read(source.choice(TEXTS))
    return [place, source.randint(0, 12)]


def random_lines():
    for seed in range(80):
        source = random.Random(seed)
        yield [random_call(source) for k in range(200)]


def lines_of_all_calls():
    for seed in range(60):
        source = random.Random(seed)
        yield [random_call(source, ALL_PLACES) for k in range(400)]


def wrong_calls():
    """Calls that are refused, whatever was called before."""
    return ([0, 1, 1000], [1, 9999, 1], [2, 9999], [3, 4, 1, 1], [3, 0, 1, 10], [4, 0, 999], [5, 999999], [6, 999999],
            [7, 999999], [10, 0, 999], [10, 4, 1], [11, 0, 999], [11, 0, 0], [12, 9999], [12, 0], [13, 9999],
            [13, 10000], [15, 999999], [15, -1], read("CAN 4 1"), read([256]), read([65] * 101))


def call(houses, numbers):
    """What one call answers; the count ahead of a text is no number of its own."""
    return answer(houses, numbers[0], numbers[2:] if numbers[0] == 16 else numbers[1:])


def looks(houses):
    """All that can be seen of the houses."""
    size = call(houses, NET)[1]
    sales = [(r, no) for r in range(4) for no in range(1, 41)]
    return [
        [call(houses, seats(f)) for f in range(1, 5)], [call(houses, line(f)) for f in range(1, 5)],
        [call(houses, view(r, no)) for r, no in sales], [call(houses, truth(r, no)) for r, no in sales],
        [call(houses, text(k)) for k in range(size)], call(houses, SETTLED),
    ]


def net_growth(place, told):
    growth = told[1] if place in TELLS_HOW_MANY else 0
    return growth + (place in SENDS_ONE) - (place in TAKES_ONE)


class LinesTest(unittest.TestCase):
    def test_the_net_grows_as_the_answers_say(self):
        for calls in random_lines():
            houses = Houses()
            size = 0
            for numbers in calls:
                told = call(houses, numbers)
                if told[0] == 0:
                    size += net_growth(numbers[0], told)
                else:
                    self.assertEqual(len(told), 1)
                self.assertEqual(len(houses.net.messages), size)

    def test_no_seat_is_sold_twice(self):
        for calls in random_lines():
            houses = Houses()
            for numbers in calls:
                call(houses, numbers)
                for f, kept in houses.inventory.flights.items():
                    held = [sale.seats for sale in houses.inventory.kept.values() if (sale.f, sale.stands) == (f, HELD)]
                    self.assertLessEqual(sum(held), 0 if kept.shut else kept.cap)

    def test_all_think_the_same_when_the_net_is_calm(self):
        for calls in random_lines():
            houses = Houses()
            for numbers in calls:
                call(houses, numbers)
            call(houses, AGAIN)
            while call(houses, deliver(0)) != [-4]:
                pass
            self.assertEqual(call(houses, AGAIN), [0, 0])
            self.assertEqual(list(houses.inventory.kept.keys() ^ houses.resellers.sales.keys()), [])
            for key, sale in houses.resellers.sales.items():
                kept = houses.inventory.kept[key]
                self.assertEqual((sale.seen, sale.stood, kept.known), (kept.version, kept.stands, kept.version))
                self.assertTrue(kept.stands in (3, 4, 5) or not sale.unwanted)

    def test_a_line_as_a_list_answers_as_its_calls_do(self):
        for calls in [*random_lines(), *lines_of_all_calls()]:
            houses = Houses()
            self.assertEqual(run(*calls), [call(houses, numbers) for numbers in calls])
            self.assertLessEqual(len(joined(calls)), 25000)


class AllCallsTest(unittest.TestCase):
    def test_all_eighteen_calls_come_and_are_answered(self):
        answered = {calls[0] for line_of_calls in lines_of_all_calls()
                    for calls, told in zip(line_of_calls, run(*line_of_calls)) if told[0] == 0}
        self.assertEqual(answered, set(range(18)))

    def test_refusals_are_those_told(self):
        refusals = ((-5, -6), (-3, -7), (-3, -7), (-6,), (-4, -7), (-4,), (-4,), (-4, -6), (), (), (-4,), (-4,), (-3,),
                    (-3,), (), (-4,), (-8,), ())
        for calls in lines_of_all_calls():
            for numbers, told in zip(calls, run(*calls)):
                if told[0] != 0:
                    self.assertEqual(len(told), 1)
                    self.assertIn(told[0], refusals[numbers[0]])

    def test_two_lists_do_not_know_of_each_other(self):
        lists = [joined(calls) for calls in lines_of_all_calls()]
        first = [answers(list(calls)) for calls in lists]
        self.assertEqual([answers(calls) for calls in reversed(lists)], list(reversed(first)))

    def test_the_list_handed_in_is_as_it_was(self):
        for calls in lines_of_all_calls():
            numbers = joined(calls)
            answers(numbers)
            self.assertEqual(numbers, joined(calls))

    def test_calls_that_only_look_change_nothing(self):
        for calls in lines_of_all_calls():
            told = run(*calls)
            kept = [told[k] for k, numbers in enumerate(calls) if numbers[0] not in ONLY_LOOK]
            self.assertEqual(run(*[numbers for numbers in calls if numbers[0] not in ONLY_LOOK]), kept)

    def test_refused_calls_change_nothing(self):
        for calls in lines_of_all_calls():
            houses = Houses()
            for numbers in calls[:60]:
                call(houses, numbers)
            before = looks(houses)
            for numbers in wrong_calls():
                self.assertLess(call(houses, numbers)[0], 0)
            self.assertEqual(looks(houses), before)

    def test_calm_delivers_as_deliver_does(self):
        for calls in random_lines():
            calmed, delivered = Houses(), Houses()
            for numbers in calls:
                call(calmed, numbers)
                call(delivered, numbers)
            call(delivered, AGAIN)
            count = 0
            while call(delivered, deliver(0)) != [-4]:
                count += 1
            self.assertEqual(call(calmed, CALM), [0, count])
            self.assertEqual(looks(calmed), looks(delivered))

    def test_calm_settles(self):
        for calls in lines_of_all_calls():
            self.assertEqual(run(*calls[:395], CALM, SETTLED, NET, AGAIN, CALM)[-4:], [[0, 1], [0, 0], [0, 0], [0, 0]])

    def test_each_text_in_the_net_is_read(self):
        for calls in random_lines():
            houses = Houses()
            for numbers in calls:
                call(houses, numbers)
            for k, message in enumerate(houses.net.messages):
                told = call(houses, text(k))
                self.assertEqual(call(houses, read(told[1:])), [0, *message])

    def test_seats_and_line_are_those_of_the_sales(self):
        for calls in lines_of_all_calls():
            houses = Houses()
            for numbers in calls:
                call(houses, numbers)
                cap, held, shut = (call(houses, seats(1))[1:] or [0, 0, 0])
                self.assertLessEqual(held, 0 if shut else cap)
                waiting = len(call(houses, line(1))) // 3
                self.assertLessEqual(waiting, 0 if shut else 6)


if __name__ == "__main__":
    unittest.main()
