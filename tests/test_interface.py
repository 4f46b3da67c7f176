"""How answers is called: the list of calls, the list of answers, and that nothing is changed or kept."""

import unittest

from seathouses.houses import answers, taken_apart
from tests.helper import (
    AGAIN, CALM, NET, SETTLED, cap, deliver, double, flight, give_up, joined, line, lose, read, run, seats, sell, shut,
    text, truth, view,
)

LINE = joined([flight(7, 3), sell(0, 7, 3), double(0), deliver(0), give_up(0, 1), AGAIN, lose(9), deliver(0)])

# All eighteen calls, each with its answer.
ALL = (
    (flight(7, 3), [0]),
    (cap(7, 4), [0, 0]),
    (sell(0, 7, 4), [0, 1]),
    (sell(1, 7, 2), [0, 1]),
    (deliver(0), [0, 1]),
    (deliver(0), [0, 1]),
    (double(1), [0]),
    (lose(0), [0]),
    (text(0), [0, *b"ST 1 1 1 W"]),
    (read("ST 1 1 1 W"), [0, 2, 1, 1, 1, 2]),
    (NET, [0, 2]),
    (give_up(0, 1), [0]),
    (view(0, 1), [0, 0, 0, 1, 7, 4]),
    (truth(0, 1), [0, 1, 1, 0]),
    (seats(7), [0, 4, 4, 0]),
    (line(7), [0, 1, 1, 2]),
    (SETTLED, [0, 0]),
    (AGAIN, [0, 4]),
    # In the net are 7 messages, and 4 are said again: 6 st, 3 can, 2 ask. The st send 6 acks, the can and ask 5 st and
    # one more for the sale that waits; these send 6 acks.
    (CALM, [0, 11 + 6 + 6 + 6]),
    (SETTLED, [0, 1]),
    (view(0, 1), [0, 2, 4, 1, 7, 4]),
    (truth(1, 1), [0, 2, 1, 2]),
    (shut(7), [0, 1]),
    (seats(7), [0, 4, 0, 1]),
)


class Watched(list):
    """A list that tells if one tries to change it."""

    def changed(self, *numbers):
        raise AssertionError("the list of calls was changed")

    append = extend = insert = remove = pop = clear = sort = reverse = changed
    __setitem__ = __delitem__ = __iadd__ = __imul__ = changed


class InterfaceTest(unittest.TestCase):
    def test_counts_and_answers(self):
        self.assertEqual(answers(LINE), [1, 0, 2, 0, 1, 1, 0, 2, 0, 1, 1, 0, 2, 0, 2, 1, -4, 2, 0, 1])

    def test_all_eighteen_calls(self):
        self.assertEqual({call[0] for call, told in ALL}, set(range(18)))
        self.assertEqual(answers(joined([call for call, told in ALL])),
                         joined([[len(told), *told] for call, told in ALL]))

    def test_one_call(self):
        self.assertEqual(answers([8]), [2, 0, 0])
        self.assertEqual(answers([5, 0]), [1, -4])
        self.assertEqual([answers([9]), answers([14]), answers([17])], [[2, 0, 0], [2, 0, 0], [2, 0, 1]])
        self.assertEqual(answers([16, 0]), [1, -8])

    def test_four_hundred_calls(self):
        self.assertEqual(answers([8] * 400), [2, 0, 0] * 400)

    def test_plain_numbers_in_a_plain_list(self):
        told = answers(LINE)
        self.assertIs(type(told), list)
        self.assertEqual({type(number) for number in told}, {int})

    def test_what_is_handed_in_is_not_changed(self):
        for numbers in (LINE, joined([call for call, told in ALL]), [16, 101, *[65] * 101, 16, 1, 256]):
            calls = Watched(numbers)
            answers(calls)
            self.assertEqual(list(calls), numbers)

    def test_the_answers_are_a_list_of_their_own(self):
        calls = [16, 7, *b"CAN 1 2"]
        told = answers(calls)
        told.append(9)
        self.assertEqual(calls, [16, 7, *b"CAN 1 2"])

    def test_as_many_numbers_as_may_be(self):
        calls = [16, 100, *[48] * 100] * 245 + [14] * 10
        self.assertEqual(len(calls), 25000)
        self.assertEqual(answers(calls), [1, -8] * 245 + [2, 0, 0] * 10)

    def test_nothing_is_kept(self):
        first = answers(LINE)
        first_again = list(first)
        self.assertEqual(answers([8]), [2, 0, 0])
        self.assertEqual(answers(LINE), first)
        first.clear()
        self.assertEqual(answers(LINE), first_again)
        answers(joined([call for call, told in ALL]))
        self.assertEqual(run(NET, view(0, 1), truth(0, 1), seats(7), line(7), text(0), SETTLED, CALM),
                         [[0, 0], [-4], [-4], [-3], [-3], [-4], [0, 1], [0, 0]])

    def test_all_eighteen_forms_are_taken_apart(self):
        forms = [[0, 1, 2], [1, 3, 4], [2, 5], [3, 6, 7, 8], [4, 9, 10], [5, 11], [6, 12], [7, 13], [8], [9],
                 [10, 14, 15], [11, 16, 17], [12, 18], [13, 19], [14], [15, 20], [16, 3, 21, 22, 23], [17]]
        expected = [(form[0], form[1:]) for form in forms]
        expected[16] = (16, [21, 22, 23])
        self.assertEqual(taken_apart(joined(forms)), expected)
        self.assertEqual(taken_apart(joined(reversed(forms))), list(reversed(expected)))

    def test_texts_of_no_and_of_many_numbers(self):
        text = list(range(200))
        self.assertEqual(taken_apart([16, 0, 16, 200, *text, 8]), [(16, []), (16, text), (8, [])])

    def test_calls_behind_those_of_other_forms_are_found(self):
        others = [[9], [10, 0, 1], [11, 0, 1], [12, 7], [13, 7], [14], [15, 0], [16, 2, 8, 8], [16, 0], [17]]
        told = run(flight(7, 3), *others, flight(7, 3))
        self.assertEqual(told, [[0], [0, 0], [-4], [-4], [0, 3, 0, 0], [0], [0, 0], [-4], [-8], [-8], [0, 1], [-5]])


if __name__ == "__main__":
    unittest.main()
