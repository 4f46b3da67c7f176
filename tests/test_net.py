"""Promises 5 (deliver), 6 (lose) and 7 (double), as far as they are about the net."""

import unittest

from tests.helper import (
    AGAIN, ASK, CAN, HELD, REFUSED, ST, deliver, double, flight, give_up, last, lose, messages, run, sell, standings,
)

THREE = [sell(0, 7, 1), sell(1, 7, 2), sell(2, 7, 3)]


class DeliverTest(unittest.TestCase):
    def test_no_such_message(self):
        self.assertEqual(run(deliver(0), *THREE, deliver(3), deliver(999999)),
                         [[-4], [0, 1], [0, 1], [0, 1], [-4], [-4]])

    def test_the_last_message(self):
        self.assertEqual(last(*THREE, deliver(2)), [0, 1])
        self.assertEqual(standings(*THREE, deliver(2)), [((2, 1), REFUSED)])

    def test_taken_out_and_those_behind_move_up(self):
        self.assertEqual(messages(*THREE, deliver(1)),
                         [(ASK, 0, 1, 7, 1), (ASK, 2, 1, 7, 3), (ST, 1, 1, 1, REFUSED)])

    def test_sent_messages_are_counted_though_one_was_taken(self):
        self.assertEqual(run(flight(7, 1), sell(0, 7, 1), deliver(0), deliver(0), deliver(0), deliver(0)),
                         [[0], [0, 1], [0, 1], [0, 1], [0, 0], [-4]])

    def test_several_sent_by_one(self):
        calls = [flight(7, 2), sell(0, 7, 2), sell(1, 7, 1), sell(2, 7, 1), give_up(0, 1),
                 deliver(0), deliver(0), deliver(0), deliver(0)]
        self.assertEqual(last(*calls), [0, 3])

    def test_refused_deliver_changes_nothing(self):
        self.assertEqual(run(*THREE, deliver(3), deliver(-1), deliver(1000000), lose(2), lose(2))[3:],
                         [[-4], [-2], [-2], [0], [-4]])


class LoseTest(unittest.TestCase):
    def test_no_such_message(self):
        self.assertEqual(run(lose(0), *THREE, lose(3), lose(999999))[-2:], [[-4], [-4]])
        self.assertEqual(last(lose(0)), [-4])

    def test_taken_out_and_those_behind_move_up(self):
        self.assertEqual(messages(*THREE, lose(1)), [(ASK, 0, 1, 7, 1), (ASK, 2, 1, 7, 3)])
        self.assertEqual(messages(*THREE, lose(2)), [(ASK, 0, 1, 7, 1), (ASK, 1, 1, 7, 2)])

    def test_answers_0_and_does_nothing_else(self):
        self.assertEqual(run(flight(7, 1), sell(0, 7, 1), lose(0), lose(0)), [[0], [0, 1], [0], [-4]])
        self.assertEqual(standings(flight(7, 1), sell(0, 7, 1), lose(0)), [])


class DoubleTest(unittest.TestCase):
    def test_no_such_message(self):
        self.assertEqual(run(double(0), *THREE, double(3), lose(3))[-2:], [[-4], [-4]])
        self.assertEqual(last(double(0)), [-4])

    def test_stays_and_a_second_is_put_at_the_end(self):
        self.assertEqual(last(*THREE, double(1)), [0])
        self.assertEqual(messages(*THREE, double(1)),
                         [(ASK, 0, 1, 7, 1), (ASK, 1, 1, 7, 2), (ASK, 2, 1, 7, 3), (ASK, 1, 1, 7, 2)])

    def test_every_kind(self):
        calls = [flight(7, 1), sell(0, 7, 1), give_up(0, 1), double(1), lose(1)]
        self.assertEqual(messages(*calls), [(ASK, 0, 1, 7, 1), (CAN, 0, 1)])
        calls = [flight(7, 1), sell(0, 7, 1), deliver(0), double(0)]
        self.assertEqual(messages(*calls), [(ST, 0, 1, 1, HELD)] * 2)
        self.assertEqual(run(*calls, deliver(0), deliver(0), double(0), deliver(2))[-4:], [[0, 1], [0, 1], [0], [0, 0]])

    def test_two_hundred_and_no_more(self):
        told = run(sell(0, 7, 1), *[double(0)] * 199, double(0), lose(200), lose(199), double(0), double(0))
        self.assertEqual(told, [[0, 1]] + [[0]] * 199 + [[-6], [-4], [0], [0], [-6]])

    def test_no_such_message_comes_before_full(self):
        self.assertEqual(last(sell(0, 7, 1), *[double(0)] * 199, double(200)), [-4])

    def test_more_than_two_hundred(self):
        # Only double looks at how full the net is.
        full = [sell(0, 7, 1), *[double(0)] * 199]
        self.assertEqual(run(*full, AGAIN, sell(0, 7, 1), give_up(0, 1), double(0), lose(202), lose(202))[200:],
                         [[0, 1], [0, 2], [0], [-6], [0], [-4]])


if __name__ == "__main__":
    unittest.main()
