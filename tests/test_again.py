"""Promise 8 (again)."""

import unittest

from tests.helper import (
    AGAIN, ASK, CAN, GIVEN_UP, HELD, REFUSED, ST, WAITING, WITHDRAWN,
    agreed, cap, deliver, flight, give_up, heard, last, lose, messages, run, sell, shut,
)


class AgainTest(unittest.TestCase):
    def test_nothing_to_be_said(self):
        self.assertEqual(run(AGAIN, flight(7, 3), AGAIN, lose(0)), [[0, 0], [0], [0, 0], [-4]])

    def test_ask_if_nothing_was_seen(self):
        self.assertEqual(messages(flight(7, 3), sell(0, 7, 3), lose(0), AGAIN), [(ASK, 0, 1, 7, 3)])

    def test_what_is_still_in_the_net_is_said_all_the_same(self):
        self.assertEqual(run(sell(0, 7, 3), AGAIN, AGAIN, lose(2), lose(2)), [[0, 1], [0, 1], [0, 1], [0], [-4]])

    def test_put_at_the_end(self):
        self.assertEqual(messages(sell(0, 7, 3), sell(1, 7, 2), lose(0), AGAIN),
                         [(ASK, 1, 1, 7, 2), (ASK, 0, 1, 7, 3), (ASK, 1, 1, 7, 2)])

    def test_can_in_the_place_of_ask(self):
        self.assertEqual(messages(sell(0, 7, 3), give_up(0, 1), lose(0), lose(0), AGAIN), [(CAN, 0, 1)])

    def test_can_if_it_is_not_final_as_far_as_seen(self):
        self.assertEqual(messages(flight(7, 3), agreed(0, 7, 3), give_up(0, 1), lose(0), AGAIN), [(CAN, 0, 1)])
        self.assertEqual(messages(flight(7, 3), agreed(0, 7, 4), give_up(0, 1), lose(0), AGAIN), [(CAN, 0, 1)])

    def test_can_though_it_is_final_already(self):
        calls = [flight(7, 3), agreed(0, 7, 3), give_up(0, 1), deliver(0), lose(0), AGAIN]
        self.assertEqual(messages(*calls), [(CAN, 0, 1), (ST, 0, 1, 2, GIVEN_UP)])

    def test_no_can_if_it_is_final_as_far_as_seen(self):
        calls = [flight(7, 3), agreed(0, 7, 3), give_up(0, 1), deliver(0), deliver(0), deliver(0), AGAIN]
        self.assertEqual(last(*calls), [0, 0])
        calls = [flight(7, 3), agreed(0, 7, 3), give_up(0, 1), lose(0), shut(7), deliver(0), deliver(0), AGAIN]
        self.assertEqual(last(*calls), [0, 0])
        calls = [sell(0, 7, 3), deliver(0), give_up(0, 1), deliver(0), deliver(1), AGAIN]
        self.assertEqual(last(*calls), [0, 0])

    def test_nothing_of_a_sale_on_which_both_agree(self):
        self.assertEqual(last(flight(7, 3), agreed(0, 7, 3), AGAIN), [0, 0])
        self.assertEqual(last(flight(7, 3), agreed(0, 7, 4), AGAIN), [0, 0])
        self.assertEqual(last(agreed(0, 7, 3), AGAIN), [0, 0])

    def test_st_if_the_version_is_not_known(self):
        self.assertEqual(messages(flight(7, 3), heard(0, 7, 3), AGAIN), [(ASK, 0, 1, 7, 3), (ST, 0, 1, 1, HELD)])

    def test_st_though_the_reseller_has_seen_it(self):
        calls = [flight(7, 3), sell(0, 7, 3), deliver(0), deliver(0), lose(0), AGAIN]
        self.assertEqual(messages(*calls), [(ST, 0, 1, 1, HELD)])

    def test_st_if_an_older_version_is_known(self):
        self.assertEqual(messages(flight(7, 3), agreed(0, 7, 3), cap(7, 2), lose(0), AGAIN),
                         [(ST, 0, 1, 2, WITHDRAWN)])

    def test_st_once_with_the_version_as_it_is_now(self):
        calls = [flight(7, 3), heard(0, 7, 4), cap(7, 4), cap(7, 0), lose(0), lose(0), AGAIN]
        self.assertEqual(messages(*calls), [(ASK, 0, 1, 7, 4), (ST, 0, 1, 3, WITHDRAWN)])

    def test_resellers_in_the_order_made_and_then_the_inventory_in_its_own(self):
        made = [flight(7, 3), sell(2, 7, 3), sell(0, 7, 1), sell(1, 8, 2), sell(2, 7, 1), sell(0, 7, 9),
                give_up(0, 1), give_up(2, 2)]
        # The net: asks of (2,1) (0,1) (1,1) (2,2) (0,2), cans of (0,1) (2,2).
        heard_backwards = [deliver(4), deliver(4), deliver(2), deliver(0)]
        emptied = [lose(0) for k in range(7)]
        calls = [*made, *heard_backwards, *emptied, AGAIN]
        self.assertEqual(last(*calls), [0, 9])
        self.assertEqual(messages(*calls), [
            (ASK, 2, 1, 7, 3), (CAN, 0, 1), (ASK, 1, 1, 8, 2), (CAN, 2, 2), (ASK, 0, 2, 7, 9),
            (ST, 0, 2, 1, WAITING), (ST, 0, 1, 1, GIVEN_UP), (ST, 1, 1, 1, REFUSED), (ST, 2, 1, 1, HELD)])

    def test_changes_nothing_but_the_net(self):
        calls = [flight(7, 3), heard(0, 7, 3), AGAIN, AGAIN]
        self.assertEqual(run(*calls)[-2:], [[0, 2], [0, 2]])


if __name__ == "__main__":
    unittest.main()
