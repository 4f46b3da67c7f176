"""Promises 0 (flight), 1 (cap) and 2 (shut)."""

import unittest

from tests.helper import (
    AGAIN, GIVEN_UP, HELD, REFUSED, ST, WAITING, WITHDRAWN,
    after, cap, deliver, double, flight, give_up, heard, last, lose, messages, run, sell, shut, standings,
)

TWELVE = [flight(f, 5) for f in range(1, 13)]


class FlightTest(unittest.TestCase):
    def test_answers_0_and_sends_nothing(self):
        self.assertEqual(run(flight(7, 3), lose(0)), [[0], [-4]])

    def test_flight_is_there_with_its_seats(self):
        self.assertEqual(standings(flight(7, 3), heard(0, 7, 3)), [((0, 1), HELD)])
        self.assertEqual(standings(flight(7, 3), heard(0, 7, 4)), [((0, 1), WAITING)])

    def test_there_already(self):
        self.assertEqual(run(flight(7, 3), flight(7, 4), flight(8, 3)), [[0], [-5], [0]])

    def test_refused_flight_keeps_the_old_seats(self):
        self.assertEqual(run(flight(7, 3), flight(7, 9), sell(0, 7, 4), deliver(0), cap(7, 4)),
                         [[0], [-5], [0, 1], [0, 1], [0, 1]])

    def test_shut_one_is_there_already(self):
        self.assertEqual(run(flight(7, 3), shut(7), flight(7, 3), cap(7, 3)), [[0], [0, 0], [-5], [-7]])

    def test_twelve_flights_and_no_more(self):
        self.assertEqual(run(*TWELVE, flight(13, 5)), [[0]] * 12 + [[-6]])

    def test_refused_for_the_table_is_not_there(self):
        self.assertEqual(last(*TWELVE, flight(13, 5), cap(13, 5)), [-3])

    def test_shut_flights_fill_the_table(self):
        self.assertEqual(last(*TWELVE, shut(4), flight(13, 5)), [-6])

    def test_there_already_comes_before_full(self):
        self.assertEqual(last(*TWELVE, flight(12, 5)), [-5])

    def test_sales_of_it_that_were_refused_stay_refused(self):
        self.assertEqual(standings(heard(0, 7, 1), flight(7, 3)), [((0, 1), REFUSED)])


class CapTest(unittest.TestCase):
    def test_no_such_flight(self):
        self.assertEqual(run(cap(7, 3), flight(8, 3), cap(7, 3)), [[-3], [0], [-3]])

    def test_shut(self):
        self.assertEqual(last(flight(7, 3), shut(7), cap(7, 3)), [-7])

    def test_nothing_sold(self):
        self.assertEqual(last(flight(7, 3), cap(7, 0)), [0, 0])

    def test_the_new_seats_are_asked_from_then_on(self):
        self.assertEqual(standings(flight(7, 3), cap(7, 5), heard(0, 7, 5)), [((0, 1), HELD)])
        self.assertEqual(standings(flight(7, 5), cap(7, 3), heard(0, 7, 5)), [((0, 1), WAITING)])

    def test_just_as_much_as_is_held_takes_nothing_back(self):
        sold = [flight(7, 9), heard(0, 7, 3), heard(1, 7, 2)]
        self.assertEqual(last(*sold, cap(7, 5)), [0, 0])
        self.assertEqual(standings(*sold, cap(7, 5)), [((0, 1), HELD), ((1, 1), HELD)])

    def test_heard_of_last_goes_first(self):
        sold = [flight(7, 9), heard(0, 7, 3), heard(1, 7, 2), heard(0, 7, 4)]
        self.assertEqual(last(*sold, cap(7, 8)), [0, 1])
        self.assertEqual(messages(*sold, cap(7, 8)), [(ST, 0, 2, 2, WITHDRAWN)])
        self.assertEqual(messages(*sold, cap(7, 4)), [(ST, 0, 2, 2, WITHDRAWN), (ST, 1, 1, 2, WITHDRAWN)])
        self.assertEqual(last(*sold, cap(7, 2)), [0, 3])

    def test_last_heard_of_is_not_last_made(self):
        late = [flight(7, 9), sell(0, 7, 3), sell(1, 7, 2), deliver(1), deliver(0), lose(0), lose(0)]
        self.assertEqual(messages(*late, cap(7, 4)), [(ST, 0, 1, 2, WITHDRAWN)])

    def test_last_heard_of_is_not_last_held(self):
        # The sale of 9 waits, is held behind the later sale of 2, and still was heard of before it.
        calls = [flight(7, 9), heard(0, 7, 5), heard(1, 7, 9), heard(2, 7, 2), cap(7, 16), lose(0), cap(7, 15)]
        self.assertEqual(messages(*calls), [(ST, 2, 1, 2, WITHDRAWN)])

    def test_stops_at_the_first_that_suffices(self):
        # The last one is greater than need be; the smaller one before it is left alone.
        sold = [flight(7, 9), heard(0, 7, 1), heard(1, 7, 8)]
        self.assertEqual(messages(*sold, cap(7, 8)), [(ST, 1, 1, 2, WITHDRAWN)])

    def test_waiting_sales_are_not_taken_back(self):
        sold = [flight(7, 2), heard(0, 7, 2), heard(1, 7, 9)]
        self.assertEqual(standings(*sold, cap(7, 0)), [((0, 1), WITHDRAWN), ((1, 1), WAITING)])

    def test_clears_when_nothing_is_taken_back(self):
        sold = [flight(7, 2), heard(0, 7, 2), heard(1, 7, 3)]
        self.assertEqual(last(*sold, cap(7, 4)), [0, 0])
        self.assertEqual(last(*sold, cap(7, 5)), [0, 1])
        self.assertEqual(messages(*sold, cap(7, 5)), [(ST, 1, 1, 2, HELD)])

    def test_clears_behind_taking_back(self):
        sold = [flight(7, 8), heard(0, 7, 5), heard(1, 7, 3), heard(2, 7, 2)]
        self.assertEqual(last(*sold, cap(7, 7)), [0, 2])
        self.assertEqual(messages(*sold, cap(7, 7)), [(ST, 1, 1, 2, WITHDRAWN), (ST, 2, 1, 2, HELD)])

    def test_clears_when_the_seats_stay_the_same(self):
        sold = [flight(7, 3), heard(0, 7, 3), heard(1, 7, 1)]
        self.assertEqual(last(*sold, cap(7, 3)), [0, 0])

    def test_small_one_passes_a_great_one(self):
        sold = [flight(7, 0), heard(0, 7, 9), heard(1, 7, 2), heard(2, 7, 3), heard(3, 7, 1)]
        self.assertEqual(messages(*sold, cap(7, 3)), [(ST, 1, 1, 2, HELD), (ST, 3, 1, 2, HELD)])

    def test_room_shrinks_while_clearing(self):
        sold = [flight(7, 0), heard(0, 7, 3), heard(1, 7, 3), heard(2, 7, 2)]
        self.assertEqual(messages(*sold, cap(7, 5)), [(ST, 0, 1, 2, HELD), (ST, 2, 1, 2, HELD)])

    def test_other_flights_are_left_alone(self):
        sold = [flight(7, 2), flight(8, 2), heard(0, 8, 2), heard(1, 8, 2), heard(2, 7, 2)]
        self.assertEqual(messages(*sold, cap(7, 0)), [(ST, 2, 1, 2, WITHDRAWN)])
        self.assertEqual(last(*sold, cap(7, 9)), [0, 0])

    def test_refused_cap_changes_nothing(self):
        calls = [flight(7, 2), heard(0, 7, 2), [1, 7, 1000], [1, 7, -1], AGAIN]
        self.assertEqual(run(*calls)[-3:], [[-2], [-2], [0, 2]])


class ShutTest(unittest.TestCase):
    def test_no_such_flight(self):
        self.assertEqual(last(flight(8, 3), shut(7)), [-3])

    def test_shut_already(self):
        self.assertEqual(run(flight(7, 3), shut(7), shut(7)), [[0], [0, 0], [-7]])

    def test_held_and_waiting_are_withdrawn_in_the_order_heard_of(self):
        sold = [flight(7, 3), heard(2, 7, 9), heard(1, 7, 2), heard(0, 7, 5), heard(3, 7, 1)]
        self.assertEqual(last(*sold, shut(7)), [0, 4])
        self.assertEqual(messages(*sold, shut(7)), [
            (ST, 2, 1, 2, WITHDRAWN), (ST, 1, 1, 2, WITHDRAWN), (ST, 0, 1, 2, WITHDRAWN), (ST, 3, 1, 2, WITHDRAWN)])

    def test_order_heard_of_is_not_the_order_made(self):
        late = [flight(7, 9), sell(0, 7, 3), sell(1, 7, 2), deliver(1), deliver(0), lose(0), lose(0), shut(7)]
        self.assertEqual(messages(*late), [(ST, 1, 1, 2, WITHDRAWN), (ST, 0, 1, 2, WITHDRAWN)])

    def test_final_sales_stay_as_they_are(self):
        sold = [flight(7, 3), heard(0, 7, 3), give_up(0, 1), deliver(0), lose(0), heard(1, 7, 1)]
        self.assertEqual(last(*sold, shut(7)), [0, 1])
        self.assertEqual(standings(*sold, shut(7)), [((0, 1), GIVEN_UP), ((1, 1), WITHDRAWN)])

    def test_withdrawn_sales_stay_as_they_are(self):
        sold = [flight(7, 3), heard(0, 7, 3), cap(7, 2), lose(0)]
        self.assertEqual(last(*sold, shut(7)), [0, 0])

    def test_other_flights_are_left_alone(self):
        sold = [flight(7, 3), flight(8, 1), heard(0, 7, 3), heard(1, 8, 1), heard(2, 8, 1)]
        self.assertEqual(last(*sold, shut(7)), [0, 1])
        self.assertEqual(standings(*sold, shut(7))[1:], [((1, 1), HELD), ((2, 1), WAITING)])

    def test_asked_for_again_is_refused(self):
        self.assertEqual(messages(flight(7, 3), shut(7), sell(0, 7, 1), deliver(0)), [(ST, 0, 1, 1, REFUSED)])

    def test_ask_of_a_withdrawn_sale_says_how_it_stands(self):
        calls = [flight(7, 3), sell(0, 7, 1), double(0), deliver(0), shut(7), deliver(0), lose(0), lose(0)]
        self.assertEqual(messages(*calls), [(ST, 0, 1, 2, WITHDRAWN)])

    def test_no_room_on_a_shut_flight_or_on_none(self):
        inventory = after(flight(7, 3), flight(8, 4), shut(7)).inventory
        self.assertEqual([inventory.room(f) for f in (7, 8, 9)], [0, 4, 0])

    def test_refused_shut_changes_nothing(self):
        houses = after(flight(7, 3), heard(0, 7, 1))
        self.assertFalse(houses.inventory.flights[7].shut)
        self.assertEqual(run(flight(7, 3), [2, 0], [2, 10000], cap(7, 3)), [[0], [-2], [-2], [0, 0]])


if __name__ == "__main__":
    unittest.main()
