"""Promises 12 (seats) and 13 (line)."""

import unittest

from tests.helper import (
    AGAIN, NET, agreed, cap, deliver, flight, give_up, heard, last, line, lose, run, seats, sell, shut,
)


class SeatsTest(unittest.TestCase):
    def test_no_such_flight(self):
        self.assertEqual(run(seats(7), flight(8, 3), seats(7), seats(9999), seats(1)), [[-3], [0], [-3], [-3], [-3]])

    def test_a_sale_makes_no_flight(self):
        self.assertEqual(last(heard(0, 7, 3), seats(7)), [-3])

    def test_without_sales(self):
        self.assertEqual(run(flight(7, 3), seats(7), flight(1, 0), seats(1), flight(9999, 999), seats(9999)),
                         [[0], [0, 3, 0, 0], [0], [0, 0, 0, 0], [0], [0, 999, 0, 0]])

    def test_held_seats(self):
        self.assertEqual(last(flight(7, 9), heard(0, 7, 3), seats(7)), [0, 9, 3, 0])
        self.assertEqual(last(flight(7, 9), heard(0, 7, 3), heard(1, 7, 6), seats(7)), [0, 9, 9, 0])

    def test_waiting_and_unheard_sales_hold_nothing(self):
        self.assertEqual(last(flight(7, 9), heard(0, 7, 3), heard(1, 7, 7), seats(7)), [0, 9, 3, 0])
        self.assertEqual(last(flight(7, 9), heard(0, 7, 3), sell(1, 7, 2), seats(7)), [0, 9, 3, 0])

    def test_sales_given_up_hold_nothing(self):
        calls = [flight(7, 9), heard(0, 7, 3), heard(1, 7, 5), give_up(0, 1)]
        self.assertEqual(run(*calls, seats(7), deliver(0), seats(7))[-3:], [[0, 9, 8, 0], [0, 1], [0, 9, 5, 0]])

    def test_other_flights_hold_nothing_here(self):
        calls = [flight(7, 9), flight(8, 4), heard(0, 8, 4), heard(1, 7, 5)]
        self.assertEqual(run(*calls, seats(7), seats(8))[-2:], [[0, 9, 5, 0], [0, 4, 4, 0]])

    def test_behind_cap(self):
        calls = [flight(7, 9), heard(0, 7, 3), heard(1, 7, 5)]
        self.assertEqual(run(*calls, cap(7, 8), seats(7))[-2:], [[0, 0], [0, 8, 8, 0]])
        self.assertEqual(run(*calls, cap(7, 7), seats(7))[-2:], [[0, 1], [0, 7, 3, 0]])
        self.assertEqual(run(*calls, cap(7, 0), seats(7))[-2:], [[0, 2], [0, 0, 0, 0]])
        self.assertEqual(run(*calls, heard(2, 7, 9), cap(7, 17), seats(7))[-2:], [[0, 1], [0, 17, 17, 0]])

    def test_shut(self):
        self.assertEqual(last(flight(7, 9), shut(7), seats(7)), [0, 9, 0, 1])
        self.assertEqual(last(flight(7, 9), heard(0, 7, 3), heard(1, 7, 7), shut(7), seats(7)), [0, 9, 0, 1])
        self.assertEqual(run(flight(7, 9), flight(8, 2), shut(7), seats(8))[-1], [0, 2, 0, 0])

    def test_refused_calls_leave_it_as_it_is(self):
        self.assertEqual(run(flight(7, 9), flight(7, 3), seats(7))[-2:], [[-5], [0, 9, 0, 0]])
        self.assertEqual(run(flight(7, 9), shut(7), cap(7, 3), seats(7))[-2:], [[-7], [0, 9, 0, 1]])

    def test_changes_nothing(self):
        self.assertEqual(run(flight(7, 9), sell(0, 7, 3), seats(7), seats(7), NET, AGAIN)[2:],
                         [[0, 9, 0, 0], [0, 9, 0, 0], [0, 1], [0, 1]])


class LineTest(unittest.TestCase):
    def test_no_such_flight(self):
        self.assertEqual(run(line(7), flight(8, 3), line(7), line(9999), line(1)), [[-3], [0], [-3], [-3], [-3]])
        self.assertEqual(last(heard(0, 7, 3), line(7)), [-3])

    def test_none(self):
        self.assertEqual(last(flight(7, 3), line(7)), [0])

    def test_held_ones_are_left_out(self):
        self.assertEqual(last(flight(7, 3), heard(0, 7, 3), line(7)), [0])
        self.assertEqual(last(flight(7, 3), heard(0, 7, 2), heard(1, 7, 2), heard(2, 7, 1), line(7)), [0, 1, 1, 2])

    def test_final_ones_are_left_out(self):
        calls = [flight(7, 0), heard(0, 7, 2), heard(1, 7, 3), heard(2, 7, 4), give_up(1, 1), deliver(0)]
        self.assertEqual(last(*calls, line(7)), [0, 0, 1, 2, 2, 1, 4])
        six = [flight(7, 0), *[heard(3, 7, n) for n in range(1, 7)]]
        self.assertEqual(last(*six, heard(0, 7, 9), line(7)), [0, 3, 1, 1, 3, 2, 2, 3, 3, 3, 3, 4, 4, 3, 5, 5, 3, 6, 6])
        self.assertEqual(last(flight(7, 3), heard(0, 7, 3), cap(7, 2), line(7)), [0])

    def test_unheard_ones_are_left_out(self):
        self.assertEqual(last(flight(7, 0), sell(0, 7, 3), line(7)), [0])
        # A can ahead of its ask: kept, but of no flight.
        self.assertEqual(last(flight(7, 0), sell(0, 7, 3), give_up(0, 1), deliver(1), line(7)), [0])

    def test_other_flights_are_left_out(self):
        calls = [flight(7, 0), flight(8, 0), heard(0, 8, 1), heard(1, 7, 2), heard(2, 8, 3), heard(3, 7, 4)]
        self.assertEqual(run(*calls, line(7), line(8))[-2:], [[0, 1, 1, 2, 3, 1, 4], [0, 0, 1, 1, 2, 1, 3]])

    def test_in_the_order_heard_of(self):
        calls = [flight(7, 0), sell(0, 7, 5), sell(0, 7, 4), sell(1, 7, 3), deliver(2), deliver(1), deliver(0)]
        self.assertEqual(last(*calls, line(7)), [0, 1, 1, 3, 0, 2, 4, 0, 1, 5])
        self.assertEqual(last(flight(7, 0), heard(3, 7, 9), heard(2, 7, 1), heard(3, 7, 1), line(7)),
                         [0, 3, 1, 9, 2, 1, 1, 3, 2, 1])

    def test_held_from_among_them(self):
        calls = [flight(7, 0), heard(0, 7, 5), heard(1, 7, 2), heard(2, 7, 4), cap(7, 2)]
        self.assertEqual(last(*calls, line(7)), [0, 0, 1, 5, 2, 1, 4])

    def test_shut(self):
        self.assertEqual(last(flight(7, 0), heard(0, 7, 5), shut(7), line(7)), [0])

    def test_what_the_reseller_has_seen_is_not_asked(self):
        self.assertEqual(last(flight(7, 0), agreed(0, 7, 5), give_up(0, 1), line(7)), [0, 0, 1, 5])

    def test_changes_nothing(self):
        self.assertEqual(run(flight(7, 0), heard(0, 7, 3), line(7), line(7), NET, AGAIN)[-4:],
                         [[0, 0, 1, 3], [0, 0, 1, 3], [0, 0], [0, 2]])

    def test_lost_messages_do_not_matter(self):
        self.assertEqual(last(flight(7, 0), sell(0, 7, 3), lose(0), line(7)), [0])


if __name__ == "__main__":
    unittest.main()
