"""Promises 3 (sell) and 4 (give up)."""

import unittest

from tests.helper import (
    AGAIN, ASK, CAN, GIVEN_UP, HELD, REFUSED, ST, WAITING, WITHDRAWN,
    after, agreed, cap, deliver, flight, give_up, heard, last, lose, messages, run, sell, shut, standings,
)


class SellTest(unittest.TestCase):
    def test_numbers_count_by_reseller(self):
        self.assertEqual(run(sell(2, 7, 1), sell(2, 8, 1), sell(0, 7, 1), sell(3, 7, 1), sell(2, 7, 1), sell(0, 7, 1)),
                         [[0, 1], [0, 2], [0, 1], [0, 1], [0, 3], [0, 2]])

    def test_sends_ask(self):
        self.assertEqual(messages(sell(2, 7, 9), sell(2, 8, 4), sell(0, 9999, 1)),
                         [(ASK, 2, 1, 7, 9), (ASK, 2, 2, 8, 4), (ASK, 0, 1, 9999, 1)])

    def test_the_reseller_keeps_it(self):
        sale = after(sell(2, 7, 9)).resellers.sales[(2, 1)]
        self.assertEqual((sale.f, sale.seats, sale.unwanted, sale.seen, sale.stood), (7, 9, False, 0, 0))

    def test_flight_is_not_looked_at(self):
        self.assertEqual(run(sell(0, 7, 1), flight(8, 0), sell(0, 8, 9), shut(8), sell(0, 8, 9)),
                         [[0, 1], [0], [0, 2], [0, 0], [0, 3]])

    def test_inventory_has_not_heard_of_it(self):
        self.assertEqual(standings(flight(7, 3), sell(0, 7, 1)), [])

    def test_forty_sales_of_one_reseller_and_no_more(self):
        told = run(*[sell(1, 7, 1) for no in range(40)], sell(1, 7, 1))
        self.assertEqual(told, [[0, no] for no in range(1, 41)] + [[-6]])

    def test_forty_sales_of_all_together_and_no_more(self):
        forty = [sell(no % 4, 7, 1) for no in range(40)]
        self.assertEqual(run(*forty)[-1], [0, 10])
        for r in range(4):
            self.assertEqual(last(*forty, sell(r, 7, 1)), [-6])

    def test_refused_for_the_table_sends_and_keeps_nothing(self):
        forty = [sell(no % 4, 7, 1) for no in range(40)]
        self.assertEqual(run(*forty, sell(0, 7, 1), lose(40), lose(39), give_up(0, 11))[-4:],
                         [[-6], [-4], [0], [-4]])

    def test_final_sales_fill_the_table_too(self):
        self.assertEqual(last(*[agreed(0, 7, 1) for no in range(40)], sell(0, 7, 1)), [-6])

    def test_out_of_range_comes_before_full(self):
        self.assertEqual(last(*[sell(1, 7, 1) for no in range(40)], sell(4, 7, 1)), [-2])


class GiveUpTest(unittest.TestCase):
    def test_no_such_sale(self):
        self.assertEqual(run(give_up(0, 1), sell(0, 7, 1), give_up(0, 2), give_up(1, 1), give_up(0, 999)),
                         [[-4], [0, 1], [-4], [-4], [-4]])

    def test_sends_can(self):
        self.assertEqual(run(sell(3, 7, 1), give_up(3, 1), lose(1), lose(1)), [[0, 1], [0], [0], [-4]])
        self.assertEqual(messages(sell(3, 7, 1), sell(3, 7, 1), give_up(3, 2))[2:], [(CAN, 3, 2)])

    def test_wanted_already(self):
        self.assertEqual(run(sell(0, 7, 1), give_up(0, 1), give_up(0, 1), lose(2)), [[0, 1], [0], [-7], [-4]])

    def test_other_sales_are_not_given_up(self):
        self.assertEqual(run(sell(0, 7, 1), sell(0, 7, 1), sell(1, 7, 1), give_up(0, 1), give_up(0, 2), give_up(1, 1)),
                         [[0, 1], [0, 2], [0, 1], [0], [0], [0]])

    def test_held_or_waiting_as_far_as_seen(self):
        self.assertEqual(last(flight(7, 3), agreed(0, 7, 3), give_up(0, 1)), [0])
        self.assertEqual(last(flight(7, 3), agreed(0, 7, 4), give_up(0, 1)), [0])

    def test_refused_as_far_as_seen(self):
        self.assertEqual(last(agreed(0, 7, 3), give_up(0, 1)), [-7])

    def test_withdrawn_as_far_as_seen(self):
        self.assertEqual(last(flight(7, 3), agreed(0, 7, 3), shut(7), deliver(0), give_up(0, 1)), [-7])

    def test_given_up_as_far_as_seen(self):
        self.assertEqual(last(agreed(0, 7, 3), sell(0, 7, 3), give_up(0, 2), deliver(1), deliver(1), give_up(0, 2)),
                         [-7])

    def test_final_but_not_seen_so(self):
        self.assertEqual(last(heard(0, 7, 3), give_up(0, 1)), [0])
        self.assertEqual(last(flight(7, 3), agreed(0, 7, 3), shut(7), lose(0), give_up(0, 1)), [0])

    def test_the_inventory_does_not_know_of_it(self):
        self.assertEqual(standings(flight(7, 3), agreed(0, 7, 3), give_up(0, 1)), [((0, 1), HELD)])

    def test_said_again_from_then_on(self):
        self.assertEqual(messages(flight(7, 3), agreed(0, 7, 3), give_up(0, 1), lose(0), AGAIN), [(CAN, 0, 1)])

    def test_refused_give_up_sends_nothing(self):
        self.assertEqual(last(agreed(0, 7, 3), give_up(0, 1), lose(0)), [-4])
        self.assertEqual(last(give_up(0, 1), lose(0)), [-4])

    def test_seats_of_it_go_to_those_that_wait(self):
        calls = [flight(7, 3), agreed(0, 7, 3), agreed(1, 7, 2), give_up(0, 1), deliver(0)]
        self.assertEqual(messages(*calls), [(ST, 0, 1, 2, GIVEN_UP), (ST, 1, 1, 2, HELD)])

    def test_all_ways_of_standing_are_told_apart(self):
        calls = [flight(7, 3), heard(0, 7, 3), heard(1, 7, 3), heard(2, 8, 1), flight(9, 1), heard(3, 9, 1), cap(9, 0),
                 lose(0), give_up(0, 1), deliver(0)]
        self.assertEqual(standings(*calls), [
            ((0, 1), GIVEN_UP), ((1, 1), HELD), ((2, 1), REFUSED), ((3, 1), WITHDRAWN)])
        self.assertEqual(standings(*calls[:3]), [((0, 1), HELD), ((1, 1), WAITING)])


if __name__ == "__main__":
    unittest.main()
