"""Promises 15 (text) and 16 (read)."""

import unittest

from seathouses.net import ACK, ASK, CAN, ST
from seathouses.texts import written
from tests.helper import (
    AGAIN, GIVEN_UP, HELD, NET, REFUSED, SETTLED, WAITING, WITHDRAWN,
    agreed, cap, deliver, double, flight, give_up, heard, last, lose, read, run, sell, shut, text, texts,
)

KINDS = (
    ("ASK 1 2 3 4", [ASK, 1, 2, 3, 4]),
    ("CAN 1 2", [CAN, 1, 2]),
    ("ST 1 2 3 H", [ST, 1, 2, 3, HELD]),
    ("ACK 1 2 3", [ACK, 1, 2, 3]),
)
LETTERS = (("H", HELD), ("W", WAITING), ("R", REFUSED), ("C", GIVEN_UP), ("X", WITHDRAWN))

# The text around each number that a message has, and the number's range.
NUMBERS = (
    ("ASK ", " 2 3 4", 0, 3), ("ASK 1 ", " 3 4", 1, 999), ("ASK 1 2 ", " 4", 1, 9999), ("ASK 1 2 3 ", "", 1, 9),
    ("CAN ", " 2", 0, 3), ("CAN 1 ", "", 1, 999),
    ("ST ", " 2 3 H", 0, 3), ("ST 1 ", " 3 H", 1, 999), ("ST 1 2 ", " H", 1, 999999),
    ("ACK ", " 2 3", 0, 3), ("ACK 1 ", " 3", 1, 999), ("ACK 1 2 ", "", 1, 999999),
)


class TextTest(unittest.TestCase):
    def test_bytes(self):
        self.assertEqual(last(sell(0, 7, 3), text(0)), [0, 65, 83, 75, 32, 48, 32, 49, 32, 55, 32, 51])

    def test_ask(self):
        self.assertEqual(texts(sell(3, 9999, 9), sell(3, 100, 1)), ["ASK 3 1 9999 9", "ASK 3 2 100 1"])

    def test_can(self):
        self.assertEqual(texts(sell(2, 7, 3), give_up(2, 1)), ["ASK 2 1 7 3", "CAN 2 1"])

    def test_st_with_each_letter(self):
        self.assertEqual(texts(flight(7, 3), sell(1, 7, 3), deliver(0)), ["ST 1 1 1 H"])
        self.assertEqual(texts(flight(7, 3), sell(1, 7, 4), deliver(0)), ["ST 1 1 1 W"])
        self.assertEqual(texts(sell(1, 7, 4), deliver(0)), ["ST 1 1 1 R"])
        self.assertEqual(texts(sell(1, 7, 4), give_up(1, 1), lose(0), deliver(0)), ["ST 1 1 1 C"])
        self.assertEqual(texts(flight(7, 3), heard(1, 7, 3), shut(7)), ["ST 1 1 2 X"])
        self.assertEqual(texts(flight(7, 3), heard(1, 7, 4), cap(7, 4), cap(7, 3)), ["ST 1 1 2 H", "ST 1 1 3 X"])

    def test_ack(self):
        self.assertEqual(texts(flight(7, 3), sell(0, 7, 3), deliver(0), deliver(0)), ["ACK 0 1 1"])
        self.assertEqual(texts(flight(7, 3), agreed(0, 7, 3), shut(7), deliver(0)), ["ACK 0 1 2"])

    def test_numbers_of_one_to_four_digits(self):
        for f in (1, 9, 10, 99, 100, 101, 999, 1000, 1234, 9999):
            self.assertEqual(texts(sell(0, f, 1)), [f"ASK 0 1 {f} 1"])
        self.assertEqual(texts(*[sell(2, 70, 1)] * 40)[8:11], ["ASK 2 9 70 1", "ASK 2 10 70 1", "ASK 2 11 70 1"])
        self.assertEqual(last(*[sell(2, 70, 1)] * 40, give_up(2, 40), text(40)), [0, *b"CAN 2 40"])

    def test_versions_of_many_digits(self):
        # Greater than any that the calls come to.
        self.assertEqual(bytes(written((ST, 3, 999, 999999, WITHDRAWN))), b"ST 3 999 999999 X")
        self.assertEqual(bytes(written((ACK, 3, 100, 1000))), b"ACK 3 100 1000")

    def test_each_place_of_the_net(self):
        calls = [sell(0, 7, 1), sell(1, 8, 2), sell(2, 9, 3), lose(1), double(0)]
        self.assertEqual(texts(*calls), ["ASK 0 1 7 1", "ASK 2 1 9 3", "ASK 0 1 7 1"])

    def test_an_st_tells_how_it_stood_when_it_was_sent(self):
        self.assertEqual(texts(flight(7, 3), sell(0, 7, 3), deliver(0), shut(7)), ["ST 0 1 1 H", "ST 0 1 2 X"])

    def test_no_such_message(self):
        self.assertEqual(run(text(0), sell(0, 7, 3), text(1), text(999999), lose(0), text(0)),
                         [[-4], [0, 1], [-4], [-4], [0], [-4]])

    def test_changes_nothing(self):
        told = run(sell(0, 7, 3), text(0), text(0), NET, AGAIN, text(1))
        self.assertEqual(told[1:], [[0, *b"ASK 0 1 7 3"]] * 2 + [[0, 1], [0, 1], [0, *b"ASK 0 1 7 3"]])


class ReadTest(unittest.TestCase):
    def reads(self, signs, numbers):
        with self.subTest(text=signs):
            self.assertEqual(last(read(signs)), [0, *numbers])

    def unread(self, *signs):
        for each in signs:
            with self.subTest(text=each):
                self.assertEqual(last(read(each)), [-8])

    def test_each_kind(self):
        self.assertEqual([numbers[0] for signs, numbers in KINDS], [0, 1, 2, 3])
        for signs, numbers in KINDS:
            self.reads(signs, numbers)

    def test_each_letter(self):
        self.assertEqual([stands for letter, stands in LETTERS], [1, 2, 3, 4, 5])
        for letter, stands in LETTERS:
            self.reads(f"ST 0 12 345 {letter}", [2, 0, 12, 345, stands])

    def test_no_other_letter(self):
        others = [sign for sign in map(chr, range(256)) if sign not in "HWRCX"]
        self.assertEqual(len(others), 251)
        self.unread(*[f"ST 1 2 3 {sign}" for sign in others])

    def test_each_number_within_its_range(self):
        for ahead, behind, least, most in NUMBERS:
            for number in (least, least + 1, most - 1, most):
                with self.subTest(text=f"{ahead}{number}{behind}"):
                    told = last(read(f"{ahead}{number}{behind}"))
                    # Behind the 0 and the kind, a number for each blank.
                    self.assertEqual((told[0], told[1 + ahead.count(" ")]), (0, number))

    def test_each_number_just_outside(self):
        for ahead, behind, least, most in NUMBERS:
            self.unread(f"{ahead}{least - 1}{behind}", f"{ahead}{most + 1}{behind}", f"{ahead}{most * 10}{behind}",
                        f"{ahead}{most}0{behind}")

    def test_numbers_that_are_not_written_so(self):
        for ahead, behind, least, most in NUMBERS:
            self.unread(*[f"{ahead}{piece}{behind}" for piece in (
                "", "00", "01", "001", "+1", "-1", "-0", "1.", "1.0", ".1", "1a", "a1", "A", "l", "O", "0x1", "1_1", "1,",
                "1e0", "1\t", "\t1", "\n1", "1\n", "1\r", "1\0", "\0", "\xb2", "\xb9", "1\xa0", "\xff", "H", "/", ":")])

    def test_numbers_of_very_many_digits(self):
        for ahead, behind, least, most in NUMBERS:
            room = 100 - len(ahead) - len(behind)
            for piece in ("9" * room, "1" + "0" * (room - 1), "0" * room, "0" * (room - 1) + "1"):
                self.assertEqual(len(ahead + piece + behind), 100)
                self.unread(ahead + piece + behind)

    def test_empty_text_and_blanks_alone(self):
        self.unread("", " ", "  ", " " * 4, " " * 100)

    def test_blanks_too_many(self):
        for signs, numbers in KINDS:
            pieces = signs.split(" ")
            self.unread(" " + signs, signs + " ", "  " + signs, signs + "  ", signs.replace(" ", "  "))
            for at in range(1, len(pieces)):
                self.unread(" ".join(pieces[:at]) + "  " + " ".join(pieces[at:]))

    def test_blanks_too_few_and_other_gaps(self):
        for signs, numbers in KINDS:
            self.unread(signs.replace(" ", ""), signs.replace(" ", "", 1))
            for gap in ("\t", "\n", "\r", "\x0b", "\x0c", "\0", "\x1f", "\xa0", "\x85", ",", "_", "-"):
                self.unread(signs.replace(" ", gap), signs.replace(" ", gap, 1))

    def test_a_piece_left_empty(self):
        for signs, numbers in KINDS:
            pieces = signs.split(" ")
            for at in range(len(pieces)):
                self.unread(" ".join(pieces[:at] + [""] + pieces[at + 1:]))

    def test_a_piece_too_few(self):
        for signs, numbers in KINDS:
            pieces = signs.split(" ")
            for at in range(len(pieces)):
                self.unread(" ".join(pieces[:at] + pieces[at + 1:]), " ".join(pieces[:at]))

    def test_a_piece_too_many(self):
        for signs, numbers in KINDS:
            for piece in ("1", "0", "H", "ASK", signs):
                self.unread(f"{signs} {piece}", f"{piece} {signs}")

    def test_a_letter_too_many_or_too_few(self):
        self.unread("ST 1 2 3 HH", "ST 1 2 3 HW", "ST 1 2 3 XH", "ST 1 2 3 1", "ST 1 2 3 H1", "ST 1 2 3", "ST 1 2 3 ",
                    "ACK 1 2 3 H", "CAN 1 2 H", "ASK 1 2 3 H", "ASK 1 2 3 4 H", "ST 1 2 H 3")

    def test_other_words(self):
        for signs, numbers in KINDS:
            behind = signs.partition(" ")[2]
            for word in ("", "A", "AS", "ASKS", "ASKK", "AASK", "CA", "CANC", "S", "STT", "SST", "AC", "ACKS", "NACK",
                         "ask", "Ask", "asK", "can", "Can", "st", "St", "ack", "Ack", "0", "1", "H", "KSA", "SEAT"):
                self.unread(f"{word} {behind}", word)

    def test_words_of_other_kinds(self):
        self.unread("ASK 1 2", "ASK 1 2 3", "CAN 1 2 3 4", "CAN 1 2 3", "ST 1 2", "ST 1 2 3 4", "ACK 1 2", "ACK 1 2 3 4")

    def test_small_letters(self):
        for signs, numbers in KINDS:
            self.unread(signs.lower())
        for letter, stands in LETTERS:
            self.unread(f"ST 1 2 3 {letter.lower()}")

    def test_bytes_that_stand_nowhere(self):
        for signs, numbers in KINDS:
            written_so = [ord(sign) for sign in signs]
            for byte in (0, 31, 33, 47, 58, 64, 91, 127, 128, 255):
                self.unread([byte])
                for at in range(len(written_so) + 1):
                    self.unread(written_so[:at] + [byte] + written_so[at:])
                for at in range(len(written_so)):
                    self.unread(written_so[:at] + [byte] + written_so[at + 1:])

    def test_each_byte_alone(self):
        self.unread(*[[byte] for byte in range(256)])

    def test_longest_text(self):
        self.assertEqual(last(read("ST 3 999 999999 X")), [0, 2, 3, 999, 999999, 5])

    def test_what_text_answers_is_read(self):
        calls = [flight(7, 3), *[sell(r, f, n) for r, f, n in ((0, 7, 3), (1, 7, 1), (2, 9999, 9), (3, 10, 5))],
                 give_up(1, 1), deliver(0), deliver(0), deliver(0), deliver(2), AGAIN]
        found = texts(*calls)
        self.assertEqual({signs.partition(" ")[0] for signs in found}, {"ASK", "CAN", "ST", "ACK"})
        for signs in found:
            told = last(read(signs))
            self.assertEqual(told[0], 0)
            self.assertEqual(bytes(written(told[1:])).decode("ascii"), signs)

    def test_the_sale_and_the_flight_are_not_looked_at(self):
        self.reads("ASK 3 999 9999 9", [0, 3, 999, 9999, 9])
        self.reads("CAN 0 1", [1, 0, 1])

    def test_changes_nothing(self):
        told = run(flight(7, 3), *[read(signs) for signs, numbers in KINDS], read("no text"), NET, SETTLED, AGAIN)
        self.assertEqual(told[-4:], [[-8], [0, 0], [0, 1], [0, 0]])


class NoTextTest(unittest.TestCase):
    def test_longest_and_one_more(self):
        for byte in (0, 32, 65, 255):
            self.assertEqual(run(read([byte] * 100), read([byte] * 101), read([byte] * 200)), [[-8], [-2], [-2]])

    def test_a_message_that_goes_on_for_too_long(self):
        self.assertEqual(run(read("CAN 1 2".ljust(100)), read("CAN 1 2".ljust(101))), [[-8], [-2]])

    def test_no_byte(self):
        for number in (-1, 256, -1000000000000, 1000000000000):
            for at in range(8):
                message = [ord(sign) for sign in "CAN 1 2"]
                message.insert(at, number)
                self.assertEqual(last(read(message)), [-2])
                self.assertEqual(last(read([number])), [-2])
            self.assertEqual(run(read([number] * 100), read([0] * 99 + [number]), read([number] * 101)), [[-2]] * 3)

    def test_bytes_at_the_ends(self):
        self.assertEqual(run(read([0]), read([255]), read([0, 255])), [[-8]] * 3)

    def test_no_byte_where_the_text_is_no_message_anyway(self):
        self.assertEqual(run(read([*b"nothing", -1]), read([256, *b" ASK"]), read([*b"ASK 9 9 9 ", 256])), [[-2]] * 3)

    def test_a_byte_counted_on_or_back_is_no_byte(self):
        # 256 more or less than the bytes of a text that is read.
        self.assertEqual(run(read([number + 256 for number in b"CAN 1 2"]), read([number - 256 for number in b"CAN 1 2"])),
                         [[-2]] * 2)

    def test_calls_behind_a_refused_text_are_found(self):
        self.assertEqual(run(read([8] * 101), NET, read([9] * 200), NET, read([]), NET),
                         [[-2], [0, 0], [-2], [0, 0], [-8], [0, 0]])


if __name__ == "__main__":
    unittest.main()
