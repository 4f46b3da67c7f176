"""How answers is called: the list of calls, the list of answers, and that nothing is changed or kept."""

import unittest

from seathouses.houses import answers, taken_apart
from tests.helper import AGAIN, deliver, double, flight, give_up, joined, lose, run, sell

LINE = joined([flight(7, 3), sell(0, 7, 3), double(0), deliver(0), give_up(0, 1), AGAIN, lose(9), deliver(0)])


class Watched(list):
    """A list that tells if one tries to change it."""

    def changed(self, *numbers):
        raise AssertionError("the list of calls was changed")

    append = extend = insert = remove = pop = clear = sort = reverse = changed
    __setitem__ = __delitem__ = __iadd__ = __imul__ = changed


class InterfaceTest(unittest.TestCase):
    def test_counts_and_answers(self):
        self.assertEqual(answers(LINE), [1, 0, 2, 0, 1, 1, 0, 2, 0, 1, 1, 0, 2, 0, 2, 1, -4, 2, 0, 1])

    def test_one_call(self):
        self.assertEqual(answers([8]), [2, 0, 0])
        self.assertEqual(answers([5, 0]), [1, -4])

    def test_four_hundred_calls(self):
        self.assertEqual(answers([8] * 400), [2, 0, 0] * 400)

    def test_plain_numbers_in_a_plain_list(self):
        told = answers(LINE)
        self.assertIs(type(told), list)
        self.assertEqual({type(number) for number in told}, {int})

    def test_what_is_handed_in_is_not_changed(self):
        calls = Watched(LINE)
        answers(calls)
        self.assertEqual(list(calls), LINE)

    def test_nothing_is_kept(self):
        first = answers(LINE)
        first_again = list(first)
        self.assertEqual(answers([8]), [2, 0, 0])
        self.assertEqual(answers(LINE), first)
        first.clear()
        self.assertEqual(answers(LINE), first_again)

    def test_all_eighteen_forms_are_taken_apart(self):
        forms = [[0, 1, 2], [1, 3, 4], [2, 5], [3, 6, 7, 8], [4, 9, 10], [5, 11], [6, 12], [7, 13], [8], [9],
                 [10, 14, 15], [11, 16, 17], [12, 18], [13, 19], [14], [15, 20], [16, 3, 21, 22, 23], [17]]
        expected = [(form[0], form[1:]) for form in forms]
        expected[16] = (16, [21, 22, 23])
        self.assertEqual(taken_apart(joined(forms)), expected)
        self.assertEqual(taken_apart(joined(reversed(forms))), list(reversed(expected)))

    def test_texts_of_no_and_of_many_numbers(self):
        text = list(range(200))
        self.assertEqual(taken_apart([16, 0, 16, 200, *text, 8]), [(16, []), (16, text), (8, [])])

    def test_calls_behind_those_of_other_forms_are_found(self):
        others = [[9], [10, 0, 1], [11, 0, 1], [12, 7], [13, 7], [14], [15, 0], [16, 2, 8, 8], [16, 0], [17]]
        told = run(flight(7, 3), *others, flight(7, 3))
        self.assertEqual(len(told), 12)
        self.assertEqual([told[0], told[-1]], [[0], [-5]])


if __name__ == "__main__":
    unittest.main()
