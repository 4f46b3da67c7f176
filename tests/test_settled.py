"""Promise 17 (settled)."""

import unittest

from seathouses.houses import answer
from tests.helper import (
    AGAIN, CALM, HELD, NET, SETTLED, after, agreed, cap, deliver, double, flight, give_up, heard, last, lose, run, sell,
    shut,
)

THREE = [flight(7, 3), agreed(0, 7, 3), agreed(1, 7, 2), agreed(2, 8, 1)]


def settled_if(change):
    """What settled answers if one of three settled sales is changed so."""
    houses = after(*THREE)
    change(houses.resellers.sales[(1, 1)], houses.inventory.kept[(1, 1)])
    return answer(houses, 17, [])


class SettledTest(unittest.TestCase):
    def test_no_sales(self):
        self.assertEqual(run(SETTLED, flight(7, 3), SETTLED, shut(7), SETTLED), [[0, 1], [0], [0, 1], [0, 0], [0, 1]])

    def test_all_agree(self):
        self.assertEqual(last(*THREE, SETTLED), [0, 1])
        self.assertEqual(settled_if(lambda own, kept: None), [0, 1])

    def test_step_by_step(self):
        self.assertEqual(
            run(flight(7, 3), sell(0, 7, 3), SETTLED, deliver(0), SETTLED, deliver(0), SETTLED, deliver(0), SETTLED),
            [[0], [0, 1], [0, 0], [0, 1], [0, 0], [0, 1], [0, 0], [0, 0], [0, 1]])

    def test_not_heard_of(self):
        self.assertEqual(last(*THREE, sell(1, 7, 2), lose(0), SETTLED), [0, 0])

    def test_one_sale_is_enough_wherever_it_comes(self):
        unheard = [*sell(3, 7, 1), *lose(0)]
        for at in range(1, 5):
            self.assertEqual(last(*THREE[:at], unheard, *THREE[at:], SETTLED), [0, 0])

    def test_seen_is_not_its_version(self):
        def see_nothing(own, kept):
            own.seen = 0

        def see_too_much(own, kept):
            own.seen = 2

        self.assertEqual(settled_if(see_nothing), [0, 0])
        self.assertEqual(settled_if(see_too_much), [0, 0])
        self.assertEqual(last(*THREE, heard(1, 7, 1), SETTLED), [0, 0])
        self.assertEqual(last(*THREE, cap(7, 5), lose(0), SETTLED), [0, 0])

    def test_it_stands_otherwise_than_it_stood(self):
        # By the calls this never comes alone: another standing has another version.
        def stood_otherwise(own, kept):
            own.stood = HELD

        self.assertEqual(settled_if(stood_otherwise), [0, 0])

    def test_its_version_is_not_known(self):
        def forget(own, kept):
            kept.known = 0

        self.assertEqual(settled_if(forget), [0, 0])
        self.assertEqual(last(*THREE, sell(1, 7, 1), deliver(0), deliver(0), lose(0), SETTLED), [0, 0])

    def test_to_be_given_up_and_not_final(self):
        self.assertEqual(last(*THREE, give_up(1, 1), lose(0), SETTLED), [0, 0])
        self.assertEqual(last(*THREE, give_up(0, 1), lose(0), SETTLED), [0, 0])

    def test_to_be_given_up_and_final(self):
        given_up = [flight(7, 3), agreed(0, 7, 3), give_up(0, 1), deliver(0), deliver(0)]
        self.assertEqual(last(*given_up, SETTLED), [0, 0])
        self.assertEqual(last(*given_up, deliver(0), SETTLED), [0, 1])
        withdrawn = [flight(7, 3), agreed(0, 7, 3), give_up(0, 1), lose(0), shut(7), deliver(0), deliver(0)]
        self.assertEqual(last(*withdrawn, SETTLED), [0, 1])
        refused = [sell(0, 7, 3), give_up(0, 1), deliver(0), deliver(1), deliver(1), lose(0)]
        self.assertEqual(last(*refused, SETTLED), [0, 1])

    def test_final_without_a_wish_to_give_it_up(self):
        self.assertEqual(last(agreed(0, 7, 3), SETTLED), [0, 1])

    def test_can_ahead_of_its_ask(self):
        calls = [flight(7, 3), sell(0, 7, 3), give_up(0, 1), deliver(1), deliver(1), deliver(1)]
        self.assertEqual(run(*calls, NET, SETTLED)[-2:], [[0, 1], [0, 1]])

    def test_the_net_is_not_asked(self):
        # What is still in the net can't change anything that all agree on.
        calls = [flight(7, 3), sell(0, 7, 3), double(0), deliver(0), deliver(1), deliver(1)]
        self.assertEqual(run(*calls, NET, SETTLED)[-2:], [[0, 1], [0, 1]])

    def test_unsettled_again(self):
        self.assertEqual(run(*THREE, cap(7, 5), SETTLED, CALM, SETTLED)[-4:], [[0, 1], [0, 0], [0, 4], [0, 1]])

    def test_changes_nothing(self):
        self.assertEqual(run(flight(7, 3), sell(0, 7, 3), SETTLED, SETTLED, NET, AGAIN)[2:],
                         [[0, 0], [0, 0], [0, 1], [0, 1]])


if __name__ == "__main__":
    unittest.main()
