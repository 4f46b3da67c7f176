"""Promise 5 (deliver): what each message does where it comes to, also twice, late, or behind a later one."""

import unittest

from tests.helper import (
    ACK, AGAIN, ASK, GIVEN_UP, HELD, REFUSED, ST, WAITING, WITHDRAWN,
    after, agreed, cap, deliver, double, flight, give_up, heard, last, lose, messages, run, sell, shut, standings,
)


def kept(houses, r, no):
    sale = houses.inventory.kept[(r, no)]
    return (sale.f, sale.seats, sale.stands, sale.version, sale.known)


def own(houses, r, no):
    sale = houses.resellers.sales[(r, no)]
    return (sale.seen, sale.stood)


class AskTest(unittest.TestCase):
    def test_no_such_flight(self):
        houses = after(flight(8, 9), sell(0, 7, 1), deliver(0))
        self.assertEqual(houses.net.messages, [(ST, 0, 1, 1, REFUSED)])
        self.assertEqual(kept(houses, 0, 1), (7, 1, REFUSED, 1, 0))

    def test_shut_flight(self):
        self.assertEqual(messages(flight(7, 9), sell(0, 7, 1), shut(7), deliver(0)), [(ST, 0, 1, 1, REFUSED)])

    def test_just_the_room_and_one_more(self):
        self.assertEqual(messages(flight(7, 5), sell(0, 7, 5), deliver(0)), [(ST, 0, 1, 1, HELD)])
        self.assertEqual(messages(flight(7, 5), sell(0, 7, 6), deliver(0)), [(ST, 0, 1, 1, WAITING)])
        self.assertEqual(messages(flight(7, 5), heard(1, 7, 2), sell(0, 7, 3), deliver(0)), [(ST, 0, 1, 1, HELD)])
        self.assertEqual(messages(flight(7, 5), heard(1, 7, 2), sell(0, 7, 4), deliver(0)), [(ST, 0, 1, 1, WAITING)])

    def test_flight_without_seats(self):
        self.assertEqual(messages(flight(7, 0), sell(0, 7, 1), deliver(0)), [(ST, 0, 1, 1, WAITING)])

    def test_waiting_sales_take_no_room(self):
        self.assertEqual(standings(flight(7, 5), heard(0, 7, 6), heard(1, 7, 5)), [((0, 1), WAITING), ((1, 1), HELD)])

    def test_final_sales_take_no_room(self):
        gone = [flight(7, 5), heard(0, 7, 5), give_up(0, 1), deliver(0), lose(0)]
        self.assertEqual(standings(*gone, heard(1, 7, 5)), [((0, 1), GIVEN_UP), ((1, 1), HELD)])
        gone = [flight(7, 5), heard(0, 7, 5), cap(7, 4), lose(0), cap(7, 5)]
        self.assertEqual(standings(*gone, heard(1, 7, 5)), [((0, 1), WITHDRAWN), ((1, 1), HELD)])

    def test_other_flights_take_no_room(self):
        self.assertEqual(standings(flight(7, 5), flight(8, 5), heard(0, 7, 5), heard(1, 8, 5)),
                         [((0, 1), HELD), ((1, 1), HELD)])

    def test_six_wait_and_no_more(self):
        asked = [flight(7, 0), *[heard(0, 7, 1) for no in range(6)]]
        self.assertEqual([stands for key, stands in standings(*asked)], [WAITING] * 6)
        self.assertEqual(messages(*asked, sell(1, 7, 1), deliver(0)), [(ST, 1, 1, 1, REFUSED)])

    def test_six_of_this_flight_alone(self):
        asked = [flight(7, 0), flight(8, 0), *[heard(0, 8, 1) for no in range(6)]]
        self.assertEqual(messages(*asked, sell(1, 7, 1), deliver(0)), [(ST, 1, 1, 1, WAITING)])

    def test_six_that_wait_now(self):
        asked = [flight(7, 0), *[heard(0, 7, 1) for no in range(6)]]
        self.assertEqual(messages(*asked, cap(7, 1), lose(0), sell(1, 7, 1), deliver(0)), [(ST, 1, 1, 1, WAITING)])
        self.assertEqual(messages(*asked, give_up(0, 3), deliver(0), lose(0), sell(1, 7, 1), deliver(0)),
                         [(ST, 1, 1, 1, WAITING)])

    def test_held_though_six_wait(self):
        asked = [flight(7, 1), *[heard(0, 7, 2) for no in range(6)]]
        self.assertEqual(messages(*asked, sell(1, 7, 1), deliver(0)), [(ST, 1, 1, 1, HELD)])

    def test_kept_already(self):
        # Twice in the net: the second changes nothing and takes no seats.
        calls = [flight(7, 5), sell(0, 7, 3), double(0), deliver(0), deliver(0)]
        self.assertEqual(last(*calls), [0, 1])
        self.assertEqual(messages(*calls), [(ST, 0, 1, 1, HELD)] * 2)
        self.assertEqual(standings(*calls, sell(1, 7, 2), deliver(2)), [((0, 1), HELD), ((1, 1), HELD)])

    def test_kept_already_and_refused(self):
        # The flight is there by now, but what is final stays so.
        calls = [sell(0, 7, 3), double(0), deliver(0), flight(7, 5), deliver(0)]
        self.assertEqual(messages(*calls), [(ST, 0, 1, 1, REFUSED)] * 2)

    def test_kept_already_and_waiting(self):
        calls = [flight(7, 2), sell(0, 7, 3), double(0), deliver(0), cap(7, 3), deliver(0)]
        self.assertEqual(messages(*calls), [(ST, 0, 1, 1, WAITING), (ST, 0, 1, 2, HELD), (ST, 0, 1, 2, HELD)])

    def test_same_number_of_another_reseller_is_another_sale(self):
        self.assertEqual(standings(flight(7, 3), heard(0, 7, 2), heard(1, 7, 1)), [((0, 1), HELD), ((1, 1), HELD)])


class CanTest(unittest.TestCase):
    def test_ahead_of_its_ask(self):
        calls = [flight(7, 5), sell(0, 7, 3), give_up(0, 1), deliver(1)]
        self.assertEqual(last(*calls), [0, 1])
        self.assertEqual(messages(*calls), [(ASK, 0, 1, 7, 3), (ST, 0, 1, 1, GIVEN_UP)])
        self.assertEqual(kept(after(*calls), 0, 1), (0, 0, GIVEN_UP, 1, 0))

    def test_ask_behind_its_can(self):
        calls = [flight(7, 5), sell(0, 7, 3), give_up(0, 1), deliver(1), deliver(0)]
        self.assertEqual(messages(*calls), [(ST, 0, 1, 1, GIVEN_UP)] * 2)
        self.assertEqual(kept(after(*calls), 0, 1), (0, 0, GIVEN_UP, 1, 0))
        self.assertEqual(standings(*calls, sell(1, 7, 5), deliver(2))[1:], [((1, 1), HELD)])

    def test_ahead_of_its_ask_clears_nothing_and_is_told_once(self):
        calls = [flight(7, 5), heard(1, 7, 9), sell(0, 7, 3), give_up(0, 1)]
        self.assertEqual(last(*calls, deliver(1)), [0, 1])

    def test_ahead_of_its_ask_takes_its_place_in_the_order(self):
        calls = [flight(7, 5), sell(0, 7, 3), give_up(0, 1), deliver(1), heard(1, 7, 9)]
        self.assertEqual([key for key, stands in standings(*calls[:4], sell(1, 7, 1), deliver(2))], [(0, 1), (1, 1)])

    def test_of_a_sale_that_is_final(self):
        refused = [heard(0, 7, 3), give_up(0, 1), deliver(0)]
        self.assertEqual(messages(*refused), [(ST, 0, 1, 1, REFUSED)])
        withdrawn = [flight(7, 3), heard(0, 7, 3), shut(7), lose(0), give_up(0, 1), deliver(0)]
        self.assertEqual(messages(*withdrawn), [(ST, 0, 1, 2, WITHDRAWN)])
        given_up = [flight(7, 3), heard(0, 7, 3), give_up(0, 1), double(0), deliver(0), deliver(0)]
        self.assertEqual(messages(*given_up), [(ST, 0, 1, 2, GIVEN_UP)] * 2)
        for calls in (refused, withdrawn, given_up):
            self.assertEqual(last(*calls), [0, 1])

    def test_of_a_sale_that_is_final_clears_nothing(self):
        # Nothing waits with room beside it, so a second can sends one st and no more.
        calls = [flight(7, 3), heard(0, 7, 3), heard(1, 7, 3), give_up(0, 1), double(0), deliver(0), deliver(0)]
        self.assertEqual(run(*calls)[-2:], [[0, 2], [0, 1]])

    def test_of_a_held_sale(self):
        calls = [flight(7, 3), heard(0, 7, 3), give_up(0, 1), deliver(0)]
        self.assertEqual(last(*calls), [0, 1])
        self.assertEqual(kept(after(*calls), 0, 1), (7, 3, GIVEN_UP, 2, 0))

    def test_of_a_waiting_sale(self):
        calls = [flight(7, 3), heard(0, 7, 4), give_up(0, 1), deliver(0)]
        self.assertEqual(messages(*calls), [(ST, 0, 1, 2, GIVEN_UP)])

    def test_its_flight_is_cleared_in_order(self):
        waiting = [flight(7, 5), heard(0, 7, 5), heard(0, 7, 6), heard(1, 7, 3), heard(2, 7, 3), heard(3, 7, 2)]
        calls = [*waiting, give_up(0, 1), deliver(0)]
        self.assertEqual(last(*calls), [0, 3])
        self.assertEqual(messages(*calls), [(ST, 0, 1, 2, GIVEN_UP), (ST, 1, 1, 2, HELD), (ST, 3, 1, 2, HELD)])

    def test_other_flights_are_not_cleared(self):
        calls = [flight(7, 3), flight(8, 0), heard(0, 7, 3), heard(1, 8, 1), give_up(0, 1), deliver(0)]
        self.assertEqual(last(*calls), [0, 1])


class StTest(unittest.TestCase):
    def test_first(self):
        calls = [flight(7, 3), sell(0, 7, 3), deliver(0), deliver(0)]
        self.assertEqual(last(*calls), [0, 1])
        self.assertEqual(messages(*calls), [(ACK, 0, 1, 1)])
        self.assertEqual(own(after(*calls), 0, 1), (1, HELD))

    def test_newer_than_seen(self):
        calls = [flight(7, 3), agreed(0, 7, 4), cap(7, 4), deliver(0)]
        self.assertEqual(own(after(*calls), 0, 1), (2, HELD))
        self.assertEqual(messages(*calls), [(ACK, 0, 1, 2)])

    def test_older_than_seen(self):
        calls = [flight(7, 3), sell(0, 7, 3), deliver(0), cap(7, 2), deliver(1), deliver(0)]
        self.assertEqual(last(*calls), [0, 1])
        self.assertEqual(own(after(*calls), 0, 1), (2, WITHDRAWN))
        self.assertEqual(messages(*calls), [(ACK, 0, 1, 2)] * 2)

    def test_twice(self):
        calls = [flight(7, 3), sell(0, 7, 3), deliver(0), double(0), deliver(0), deliver(0)]
        self.assertEqual(last(*calls), [0, 1])
        self.assertEqual(messages(*calls), [(ACK, 0, 1, 1)] * 2)

    def test_one_version_passed_over(self):
        calls = [flight(7, 3), sell(0, 7, 4), deliver(0), cap(7, 4), cap(7, 0), deliver(2)]
        self.assertEqual(own(after(*calls), 0, 1), (3, WITHDRAWN))
        self.assertEqual(messages(*calls)[2:], [(ACK, 0, 1, 3)])

    def test_other_sales_see_nothing(self):
        houses = after(flight(7, 3), sell(0, 7, 3), sell(0, 7, 3), sell(1, 7, 3), deliver(0), deliver(2))
        self.assertEqual([own(houses, 0, 1), own(houses, 0, 2), own(houses, 1, 1)], [(1, HELD), (0, 0), (0, 0)])

    def test_says_how_it_stood_when_it_was_sent(self):
        calls = [flight(7, 3), sell(0, 7, 3), deliver(0), shut(7), deliver(0)]
        self.assertEqual(own(after(*calls), 0, 1), (1, HELD))


class AckTest(unittest.TestCase):
    def test_known_from_then_on(self):
        calls = [flight(7, 3), sell(0, 7, 3), deliver(0), deliver(0)]
        self.assertEqual(kept(after(*calls), 0, 1)[4], 0)
        self.assertEqual(last(*calls, deliver(0)), [0, 0])
        self.assertEqual(kept(after(*calls, deliver(0)), 0, 1), (7, 3, HELD, 1, 1))

    def test_known_already(self):
        calls = [flight(7, 3), sell(0, 7, 3), deliver(0), deliver(0), double(0), deliver(0), deliver(0)]
        self.assertEqual(last(*calls), [0, 0])
        self.assertEqual(kept(after(*calls), 0, 1)[4], 1)

    def test_older_than_known(self):
        calls = [flight(7, 3), sell(0, 7, 3), deliver(0), deliver(0), cap(7, 2), deliver(1), deliver(1), deliver(0)]
        self.assertEqual(kept(after(*calls), 0, 1)[3:], (2, 2))
        self.assertEqual(last(*calls, AGAIN), [0, 0])

    def test_below_the_version(self):
        calls = [flight(7, 3), sell(0, 7, 3), deliver(0), deliver(0), cap(7, 2), deliver(0)]
        self.assertEqual(kept(after(*calls), 0, 1)[3:], (2, 1))
        self.assertEqual(messages(*calls, lose(0), AGAIN), [(ST, 0, 1, 2, WITHDRAWN)])

    def test_above_the_version_is_not_known(self):
        houses = after(flight(7, 3), heard(0, 7, 3))
        houses.inventory.hear((ACK, 0, 1, 2))
        self.assertEqual(kept(houses, 0, 1)[4], 0)


if __name__ == "__main__":
    unittest.main()
