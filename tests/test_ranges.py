"""The refusal -2: each argument just below, at and just above its range, and -2 ahead of all other refusals."""

import unittest

from tests.helper import AGAIN, CALM, deliver, flight, last, lose, run, sell, shut

FAR = 1000000000000

# By the call's place: the call's name, its arguments within their ranges, and the ranges.
CALLS = (
    ("flight", (7, 3), ((1, 9999), (0, 999))),
    ("cap", (7, 3), ((1, 9999), (0, 999))),
    ("shut", (7,), ((1, 9999),)),
    ("sell", (0, 7, 3), ((0, 3), (1, 9999), (1, 9))),
    ("give_up", (0, 1), ((0, 3), (1, 999))),
    ("deliver", (0,), ((0, 999999),)),
    ("lose", (0,), ((0, 999999),)),
    ("double", (0,), ((0, 999999),)),
    ("again", (), ()),
    ("calm", (), ()),
    ("view", (0, 1), ((0, 3), (1, 999))),
    ("truth", (0, 1), ((0, 3), (1, 999))),
    ("seats", (7,), ((1, 9999),)),
    ("line", (7,), ((1, 9999),)),
    ("net", (), ()),
    ("text", (0,), ((0, 999999),)),
)


def with_number(place, at, number):
    numbers = list(CALLS[place][1])
    numbers[at] = number
    return [place, *numbers]


class RangesTest(unittest.TestCase):
    def test_out_of_range(self):
        for place, (name, numbers, ranges) in enumerate(CALLS):
            for at, (least, most) in enumerate(ranges):
                for number in (least - 1, most + 1, -FAR, FAR):
                    with self.subTest(call=name, argument=at, number=number):
                        self.assertEqual(last(with_number(place, at, number)), [-2])

    def test_at_the_ends_of_the_range(self):
        for place, (name, numbers, ranges) in enumerate(CALLS):
            for at, bounds in enumerate(ranges):
                for number in bounds:
                    with self.subTest(call=name, argument=at, number=number):
                        self.assertNotEqual(last(with_number(place, at, number)), [-2])

    def test_one_wrong_argument_is_enough(self):
        self.assertEqual(run([3, 0, 7, 10], [3, 0, 0, 10], [3, 4, 0, 1], [3, -1, 0, 0]), [[-2]] * 4)

    def test_comes_before_the_others(self):
        twelve = [flight(f, 5) for f in range(1, 13)]
        self.assertEqual(last(*twelve, [0, 5, 1000]), [-2])
        self.assertEqual(last(*twelve, [0, 13, 1000]), [-2])
        self.assertEqual(last([1, 7, 1000]), [-2])
        self.assertEqual(last(flight(7, 3), shut(7), [1, 7, 1000]), [-2])
        self.assertEqual(last(*[sell(0, 7, 1)] * 40, [3, 0, 7, 0]), [-2])
        self.assertEqual(last([4, 4, 1]), [-2])
        self.assertEqual(last([5, 1000000]), [-2])
        self.assertEqual(last([6, -1]), [-2])
        self.assertEqual(last(sell(0, 7, 1), *[[7, 0]] * 199, [7, 1000000]), [-2])
        self.assertEqual(run([10, 4, 1], [10, 0, 0], [10, -1, 1000]), [[-2]] * 3)
        self.assertEqual(run([11, 4, 1], [11, 0, 0], [11, -1, 1000]), [[-2]] * 3)
        self.assertEqual(run([12, 0], [12, 10000], [13, 0], [13, 10000]), [[-2]] * 4)
        self.assertEqual(run([15, -1], [15, 1000000]), [[-2]] * 2)
        self.assertEqual(run([16, 1, -1], [16, 1, 256], [16, 101, *[65] * 101]), [[-2]] * 3)

    def test_comes_where_there_is_something_to_be_found_too(self):
        there = [flight(7, 3), sell(0, 7, 1), CALM, sell(0, 7, 1)]
        for place, (name, numbers, ranges) in enumerate(CALLS):
            for at, (least, most) in enumerate(ranges):
                for number in (least - 1, most + 1):
                    with self.subTest(call=name, argument=at, number=number):
                        self.assertEqual(last(*there, with_number(place, at, number)), [-2])

    def test_ends_at_which_something_is_found(self):
        calls = [flight(1, 0), flight(9999, 999), sell(0, 1, 1), sell(3, 9999, 9), deliver(0), deliver(0)]
        self.assertEqual(
            run(*calls, [10, 0, 1], [10, 3, 1], [11, 0, 1], [11, 3, 1], [12, 1], [12, 9999], [13, 1], [13, 9999])[-8:],
            [[0, 0, 0, 0, 1, 1], [0, 0, 0, 0, 9999, 9], [0, 1, 2, 0], [0, 1, 1, 0], [0, 0, 0, 0], [0, 999, 9, 0],
             [0, 0, 1, 1], [0]])

    def test_changes_nothing(self):
        wrong = [with_number(place, at, bounds[1] + 1)
                 for place, (name, numbers, ranges) in enumerate(CALLS) for at, bounds in enumerate(ranges)]
        self.assertEqual(run(*wrong, AGAIN, lose(0), flight(7, 3), sell(0, 7, 3))[len(wrong):],
                         [[0, 0], [-4], [0], [0, 1]])

    def test_a_number_below_0_is_no_place_counted_from_the_end(self):
        self.assertEqual(run(sell(0, 7, 1), [5, -1], [6, -1], [7, -1], [15, -1], lose(0))[1:], [[-2]] * 4 + [[0]])


if __name__ == "__main__":
    unittest.main()
