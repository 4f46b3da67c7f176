"""Promises 9 (calm) and 14 (net)."""

import unittest

from tests.helper import (
    AGAIN, CALM, GIVEN_UP, HELD, NET, REFUSED, SETTLED, WAITING, WITHDRAWN,
    agreed, cap, deliver, double, flight, give_up, heard, last, line, lose, run, seats, sell, shut, standings, texts,
    truth, view,
)

# Behind calm: the net is empty, all is settled, and nothing is left to be said.
CALMED = [NET, SETTLED, AGAIN, NET]
IS_CALM = [[0, 0], [0, 1], [0, 0], [0, 0]]


class CalmTest(unittest.TestCase):
    def calms(self, delivered, *calls):
        self.assertEqual(run(*calls, CALM, *CALMED)[-5:], [[0, delivered], *IS_CALM])

    def test_nothing_at_all(self):
        self.calms(0)

    def test_nothing_to_say(self):
        self.calms(0, flight(7, 3))
        self.calms(0, flight(7, 3), agreed(0, 7, 3), agreed(1, 7, 3), agreed(2, 8, 1))

    def test_second_calm_delivers_nothing(self):
        self.calms(0, flight(7, 3), sell(0, 7, 3), sell(1, 7, 3), give_up(0, 1), CALM)

    def test_a_lost_ask_is_said_again(self):
        # ask, st, ack
        self.calms(3, flight(7, 3), sell(0, 7, 3), lose(0))

    def test_what_is_in_the_net_is_delivered_too(self):
        # The ask in the net, the ask said again, an st and an ack of each.
        self.calms(6, flight(7, 3), sell(0, 7, 3))
        # Said again are ask and st; the net has one ask more.
        self.calms(8, flight(7, 3), sell(0, 7, 3), double(0), deliver(0), lose(1))

    def test_what_is_in_the_net_already_without_anything_to_say(self):
        calls = [flight(7, 3), sell(0, 7, 3), double(0), deliver(0), deliver(1), deliver(1)]
        self.assertEqual(texts(*calls), ["ASK 0 1 7 3"])
        self.assertEqual(last(*calls, AGAIN), [0, 0])
        self.calms(3, *calls)

    def test_a_lost_st_is_said_again(self):
        # The reseller has seen version 1: st, ack.
        self.calms(2, flight(7, 3), agreed(0, 7, 3), cap(7, 2), lose(0))

    def test_a_lost_ack_is_said_again_by_st(self):
        self.calms(2, flight(7, 3), sell(0, 7, 3), deliver(0), deliver(0), lose(0))

    def test_a_lost_can_is_said_again(self):
        self.calms(3, flight(7, 3), agreed(0, 7, 3), give_up(0, 1), lose(0))

    def test_st_of_sales_that_become_held_are_counted(self):
        # can; st of the one given up and of two that become held; an ack of each.
        calls = [flight(7, 4), agreed(0, 7, 4), agreed(1, 7, 3), agreed(2, 7, 2), agreed(3, 7, 1), give_up(0, 1),
                 lose(0)]
        self.calms(7, *calls)
        self.assertEqual(run(*calls, CALM, truth(0, 1), truth(1, 1), truth(2, 1), truth(3, 1))[-4:],
                         [[0, 2, GIVEN_UP, 2], [0, 2, HELD, 2], [0, 1, WAITING, 1], [0, 2, HELD, 2]])

    def test_the_first_message_comes_first(self):
        # In the order of the net the second sale is heard of first and takes all seats.
        calls = [flight(7, 3), sell(0, 7, 3), sell(1, 7, 3), lose(0), CALM]
        self.assertEqual(standings(*calls), [((1, 1), HELD), ((0, 1), WAITING)])
        calls = [flight(7, 3), sell(0, 7, 3), sell(1, 7, 3), CALM]
        self.assertEqual(standings(*calls), [((0, 1), HELD), ((1, 1), WAITING)])

    def test_ask_comes_ahead_of_its_can(self):
        # Behind an ask that takes the seats the can gives them up again: version 2. The ask, two cans, an st and an
        # ack of each.
        self.assertEqual(run(flight(7, 3), sell(0, 7, 3), give_up(0, 1), CALM, truth(0, 1))[-2:],
                         [[0, 9], [0, 2, GIVEN_UP, 2]])

    def test_can_said_again_alone(self):
        calls = [flight(7, 3), sell(0, 7, 3), give_up(0, 1), lose(0), lose(0), CALM, truth(0, 1), view(0, 1)]
        self.assertEqual(run(*calls)[-3:], [[0, 3], [0, 1, GIVEN_UP, 1], [0, 1, GIVEN_UP, 1, 7, 3]])

    def test_messages_that_came_twice_or_are_overtaken(self):
        calls = [flight(7, 4), sell(0, 7, 4), deliver(0), double(0), cap(7, 3), double(2), deliver(3), shut(7)]
        # Four st, one of them said again, their acks, and the ack that is there already.
        self.assertEqual(texts(*calls), ["ST 0 1 1 H", "ST 0 1 1 H", "ST 0 1 2 X", "ACK 0 1 2"])
        self.calms(9, *calls)
        self.assertEqual(run(*calls, CALM, view(0, 1), truth(0, 1))[-2:],
                         [[0, 2, WITHDRAWN, 0, 7, 4], [0, 2, WITHDRAWN, 2]])

    def test_sales_of_no_flight_are_refused(self):
        self.calms(6, sell(3, 9999, 9))
        self.assertEqual(last(sell(3, 9999, 9), CALM, view(3, 1)), [0, 1, REFUSED, 0, 9999, 9])

    def test_flights_stay_as_they_are(self):
        calls = [flight(7, 3), flight(8, 0), shut(8), sell(0, 7, 2), sell(1, 7, 2), CALM, seats(7), seats(8), line(7)]
        self.assertEqual(run(*calls)[-3:], [[0, 3, 2, 0], [0, 0, 0, 1], [0, 1, 1, 2]])

    def test_goes_on_behind_it(self):
        calls = [flight(7, 3), sell(0, 7, 3), CALM, sell(0, 7, 1), NET, deliver(0), deliver(0), deliver(0), NET]
        self.assertEqual(run(*calls)[3:], [[0, 2], [0, 1], [0, 1], [0, 1], [0, 0], [0, 0]])

    def test_all_sales_and_much_said_again(self):
        sold = [sell(no % 4, 7, 1) for no in range(40)]
        # 400 calls in all; 40 asks and 350 times 40 more of these, an st and an ack of each.
        calls = [flight(7, 36), *sold, *[AGAIN] * 350, CALM, *CALMED, seats(7), line(7), view(3, 10), truth(3, 10)]
        self.assertEqual(len(calls), 400)
        self.assertEqual(run(*calls)[391:], [
            [0, 40 * 352 * 3], *IS_CALM, [0, 36, 36, 0], [0, 0, 10, 1, 1, 10, 1, 2, 10, 1, 3, 10, 1],
            [0, 1, WAITING, 0, 7, 1], [0, 1, WAITING, 1]])


class NetTest(unittest.TestCase):
    def test_empty(self):
        self.assertEqual(run(NET, flight(7, 3), NET), [[0, 0], [0], [0, 0]])

    def test_behind_sending(self):
        self.assertEqual(run(sell(0, 7, 3), NET, sell(1, 7, 3), NET, give_up(0, 1), NET, AGAIN, NET),
                         [[0, 1], [0, 1], [0, 1], [0, 2], [0], [0, 3], [0, 2], [0, 5]])

    def test_behind_losing_and_doubling(self):
        self.assertEqual(run(sell(0, 7, 3), double(0), NET, double(1), NET, lose(1), NET, lose(1), lose(0), NET),
                         [[0, 1], [0], [0, 2], [0], [0, 3], [0], [0, 2], [0], [0], [0, 0]])

    def test_behind_delivering(self):
        calls = [flight(7, 3), sell(0, 7, 3), deliver(0), NET, deliver(0), NET, deliver(0), NET]
        self.assertEqual(run(*calls)[2:], [[0, 1], [0, 1], [0, 1], [0, 1], [0, 0], [0, 0]])
        calls = [flight(7, 3), heard(0, 7, 3), heard(1, 7, 2), heard(2, 7, 1), give_up(0, 1), deliver(0), NET]
        self.assertEqual(run(*calls)[-2:], [[0, 3], [0, 3]])

    def test_behind_what_the_inventory_sends_by_itself(self):
        calls = [flight(7, 3), heard(0, 7, 2), heard(1, 7, 1), cap(7, 2), NET, shut(7), NET]
        self.assertEqual(run(*calls)[-4:], [[0, 1], [0, 1], [0, 1], [0, 2]])

    def test_refused_calls_leave_it_alone(self):
        calls = [sell(0, 7, 3), deliver(1), lose(1), double(1), give_up(0, 2), sell(4, 7, 3), cap(7, 1), shut(7), NET]
        self.assertEqual(run(*calls)[1:], [[-4], [-4], [-4], [-4], [-2], [-3], [-3], [0, 1]])

    def test_more_than_two_hundred(self):
        self.assertEqual(run(sell(0, 7, 1), *[double(0)] * 200, NET, AGAIN, NET)[-4:],
                         [[-6], [0, 200], [0, 1], [0, 201]])


if __name__ == "__main__":
    unittest.main()
