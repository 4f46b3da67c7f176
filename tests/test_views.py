"""Promises 10 (view) and 11 (truth): what the reseller has seen of a sale, and how it stands at the inventory."""

import unittest

from tests.helper import (
    AGAIN, GIVEN_UP, HELD, NET, REFUSED, WAITING, WITHDRAWN,
    agreed, cap, deliver, double, flight, give_up, heard, last, lose, run, sell, shut, truth, view,
)


def both(*calls):
    """View and truth of the sale (0, 1) behind the calls."""
    return run(*calls, view(0, 1), truth(0, 1))[-2:]


class StandingTest(unittest.TestCase):
    def test_new(self):
        self.assertEqual(both(flight(7, 3), sell(0, 7, 2)), [[0, 0, 0, 0, 7, 2], [-4]])

    def test_held(self):
        self.assertEqual(both(flight(7, 3), agreed(0, 7, 3)), [[0, 1, HELD, 0, 7, 3], [0, 1, HELD, 1]])

    def test_waiting(self):
        self.assertEqual(both(flight(7, 3), agreed(0, 7, 4)), [[0, 1, WAITING, 0, 7, 4], [0, 1, WAITING, 1]])

    def test_held_behind_waiting(self):
        calls = [flight(7, 3), agreed(0, 7, 4), cap(7, 4)]
        self.assertEqual(both(*calls), [[0, 1, WAITING, 0, 7, 4], [0, 2, HELD, 1]])
        self.assertEqual(both(*calls, deliver(0)), [[0, 2, HELD, 0, 7, 4], [0, 2, HELD, 1]])
        self.assertEqual(both(*calls, deliver(0), deliver(0)), [[0, 2, HELD, 0, 7, 4], [0, 2, HELD, 2]])

    def test_refused(self):
        self.assertEqual(both(agreed(0, 9999, 9)), [[0, 1, REFUSED, 0, 9999, 9], [0, 1, REFUSED, 1]])

    def test_given_up(self):
        calls = [flight(7, 3), agreed(0, 7, 3), give_up(0, 1)]
        self.assertEqual(both(*calls), [[0, 1, HELD, 1, 7, 3], [0, 1, HELD, 1]])
        self.assertEqual(both(*calls, deliver(0)), [[0, 1, HELD, 1, 7, 3], [0, 2, GIVEN_UP, 1]])
        self.assertEqual(both(*calls, deliver(0), deliver(0)), [[0, 2, GIVEN_UP, 1, 7, 3], [0, 2, GIVEN_UP, 1]])
        self.assertEqual(both(*calls, deliver(0), deliver(0), deliver(0)),
                         [[0, 2, GIVEN_UP, 1, 7, 3], [0, 2, GIVEN_UP, 2]])

    def test_withdrawn(self):
        calls = [flight(7, 3), agreed(0, 7, 3), shut(7), deliver(0), deliver(0)]
        self.assertEqual(both(*calls), [[0, 2, WITHDRAWN, 0, 7, 3], [0, 2, WITHDRAWN, 2]])
        calls = [flight(7, 3), agreed(0, 7, 3), cap(7, 2), deliver(0), deliver(0)]
        self.assertEqual(both(*calls), [[0, 2, WITHDRAWN, 0, 7, 3], [0, 2, WITHDRAWN, 2]])

    def test_three_versions(self):
        calls = [flight(7, 3), agreed(0, 7, 4), cap(7, 4), cap(7, 3)]
        self.assertEqual(both(*calls), [[0, 1, WAITING, 0, 7, 4], [0, 3, WITHDRAWN, 1]])

    def test_withdrawn_and_to_be_given_up(self):
        calls = [flight(7, 3), agreed(0, 7, 3), give_up(0, 1), lose(0), shut(7), deliver(0), deliver(0)]
        self.assertEqual(both(*calls), [[0, 2, WITHDRAWN, 1, 7, 3], [0, 2, WITHDRAWN, 2]])

    def test_can_ahead_of_its_ask(self):
        calls = [flight(7, 3), sell(0, 7, 3), give_up(0, 1), deliver(1)]
        self.assertEqual(both(*calls), [[0, 0, 0, 1, 7, 3], [0, 1, GIVEN_UP, 0]])
        calls = [*calls, deliver(1), deliver(1)]
        self.assertEqual(both(*calls), [[0, 1, GIVEN_UP, 1, 7, 3], [0, 1, GIVEN_UP, 1]])
        # The ask comes late and changes nothing.
        self.assertEqual(both(*calls, deliver(0)), [[0, 1, GIVEN_UP, 1, 7, 3], [0, 1, GIVEN_UP, 1]])

    def test_they_change_nothing(self):
        told = run(flight(7, 3), sell(0, 7, 3), *[view(0, 1), truth(0, 1)] * 3, NET, AGAIN)
        self.assertEqual(told[2:], [[0, 0, 0, 0, 7, 3], [-4]] * 3 + [[0, 1], [0, 1]])


class LateTest(unittest.TestCase):
    def test_st_is_lost(self):
        self.assertEqual(both(flight(7, 3), heard(0, 7, 3)), [[0, 0, 0, 0, 7, 3], [0, 1, HELD, 0]])

    def test_ack_is_lost(self):
        self.assertEqual(both(flight(7, 3), sell(0, 7, 3), deliver(0), deliver(0), lose(0)),
                         [[0, 1, HELD, 0, 7, 3], [0, 1, HELD, 0]])

    def test_st_comes_twice(self):
        calls = [flight(7, 3), sell(0, 7, 3), deliver(0), double(0), deliver(0), deliver(0)]
        self.assertEqual(both(*calls), [[0, 1, HELD, 0, 7, 3], [0, 1, HELD, 0]])

    def test_ask_comes_twice(self):
        calls = [flight(7, 3), sell(0, 7, 3), double(0), deliver(0), deliver(0)]
        self.assertEqual(both(*calls), [[0, 0, 0, 0, 7, 3], [0, 1, HELD, 0]])

    def test_can_comes_twice(self):
        calls = [flight(7, 3), agreed(0, 7, 3), give_up(0, 1), double(0), deliver(0), deliver(0)]
        self.assertEqual(both(*calls), [[0, 1, HELD, 1, 7, 3], [0, 2, GIVEN_UP, 1]])

    def test_st_behind_a_later_one(self):
        calls = [flight(7, 3), sell(0, 7, 3), deliver(0), cap(7, 2), deliver(1)]
        self.assertEqual(both(*calls), [[0, 2, WITHDRAWN, 0, 7, 3], [0, 2, WITHDRAWN, 0]])
        self.assertEqual(both(*calls, deliver(0)), [[0, 2, WITHDRAWN, 0, 7, 3], [0, 2, WITHDRAWN, 0]])
        # Both acks tell of version 2.
        self.assertEqual(both(*calls, deliver(0), lose(0), deliver(0))[1], [0, 2, WITHDRAWN, 2])

    def test_st_comes_late(self):
        calls = [flight(7, 3), sell(0, 7, 3), deliver(0), cap(7, 2), deliver(0)]
        self.assertEqual(both(*calls), [[0, 1, HELD, 0, 7, 3], [0, 2, WITHDRAWN, 0]])
        self.assertEqual(both(*calls, deliver(1)), [[0, 1, HELD, 0, 7, 3], [0, 2, WITHDRAWN, 1]])

    def test_ack_behind_a_later_one(self):
        calls = [flight(7, 3), sell(0, 7, 3), deliver(0), deliver(0), cap(7, 2), deliver(1), deliver(1)]
        self.assertEqual(both(*calls)[1], [0, 2, WITHDRAWN, 2])
        self.assertEqual(both(*calls, deliver(0))[1], [0, 2, WITHDRAWN, 2])

    def test_ack_comes_twice(self):
        calls = [flight(7, 3), sell(0, 7, 3), deliver(0), deliver(0), double(0), deliver(0), cap(7, 2), deliver(0)]
        self.assertEqual(both(*calls)[1], [0, 2, WITHDRAWN, 1])


class WhichTest(unittest.TestCase):
    def test_each_sale_by_itself(self):
        calls = [flight(7, 3), flight(8, 9), agreed(0, 7, 3), agreed(1, 8, 9), sell(0, 8, 2), sell(3, 7, 1), deliver(1)]
        self.assertEqual(
            run(*calls, view(0, 1), view(0, 2), view(1, 1), view(3, 1))[-4:],
            [[0, 1, HELD, 0, 7, 3], [0, 0, 0, 0, 8, 2], [0, 1, HELD, 0, 8, 9], [0, 0, 0, 0, 7, 1]])
        self.assertEqual(
            run(*calls, truth(0, 1), truth(0, 2), truth(1, 1), truth(3, 1))[-4:],
            [[0, 1, HELD, 1], [-4], [0, 1, HELD, 1], [0, 1, WAITING, 0]])

    def test_no_such_sale(self):
        self.assertEqual(run(view(0, 1), truth(0, 1)), [[-4], [-4]])
        sold = agreed(1, 7, 3)
        for r, no in ((1, 2), (1, 999), (0, 1), (2, 1), (3, 1)):
            self.assertEqual(run(sold, view(r, no), truth(r, no))[-2:], [[-4], [-4]])

    def test_refused_for_the_table_is_no_sale(self):
        forty = [sell(2, 7, 1) for no in range(40)]
        self.assertEqual(run(*forty, sell(2, 7, 1), view(2, 40), view(2, 41))[-2:], [[0, 0, 0, 0, 7, 1], [-4]])

    def test_truth_before_and_behind_hearing_of_it(self):
        self.assertEqual(run(flight(7, 3), sell(2, 7, 3), truth(2, 1), deliver(0), truth(2, 1))[2:],
                         [[-4], [0, 1], [0, 1, HELD, 0]])
        self.assertEqual(last(flight(7, 3), sell(2, 7, 3), lose(0), truth(2, 1)), [-4])


if __name__ == "__main__":
    unittest.main()
