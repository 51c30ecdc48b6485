import unittest

from telling import Telling, slot_text, text_in
from texts import GOOD, HOLDING, JOINED, LF, fed, signed, text_behind

OUTSIDE = (-1, 16, 10 ** 18, -10 ** 18)


def shown(telling, slot, place, size):
    """(how many bytes the slot has, the text shown)."""
    answer = Telling().told_behind(telling).slot(0, slot, place, size).last()
    return (answer[0], text_in(answer, 1))


class SlotTest(unittest.TestCase):
    def test_both_are_empty_when_it_is_opened(self):
        telling = Telling().open(0, LF).slot(0, 0, 0, 500).slot(0, 1, 0, 500)
        self.assertEqual(telling.answers()[1:], [[0, 0], [0, 0]])

    def test_the_form_of_the_answer(self):
        text = signed(GOOD)
        answer = fed(JOINED, "a\n b\nc\nd\\").save(0).slot(0, 1, 0, 3).last()
        self.assertEqual(answer, [len(text), 3, 76, 79, 71])

    def test_generations_go_to_the_slots_in_turn(self):
        telling = fed(JOINED, "a\n b\nc\nd\\").save(0)
        first = signed(GOOD)
        self.assertEqual((slot_text(telling, 0, 0), slot_text(telling, 0, 1)), ("", first))
        second = signed(["LOG 2 1 1 9 1"] + GOOD[1:])
        telling.save(0)
        self.assertEqual((slot_text(telling, 0, 0), slot_text(telling, 0, 1)), (second, first))
        third = signed(["LOG 3 1 1 9 1"] + GOOD[1:])
        telling.save(0)
        self.assertEqual((slot_text(telling, 0, 0), slot_text(telling, 0, 1)), (second, third))

    def test_places_and_sizes(self):
        telling = fed(JOINED, "a\n b\nc\nd\\").save(0)
        text = signed(GOOD)
        end = len(text)
        self.assertEqual(shown(telling, 1, 0, 500), (end, text))
        self.assertEqual(shown(telling, 1, 0, end), (end, text))
        self.assertEqual(shown(telling, 1, 0, end - 1), (end, text[:-1]))
        self.assertEqual(shown(telling, 1, 5, 7), (end, text[5:12]))
        self.assertEqual(shown(telling, 1, end - 3, 500), (end, text[-3:]))
        self.assertEqual(shown(telling, 1, end - 1, 1), (end, text[-1:]))
        for place in (end, end + 1, 1000000):
            self.assertEqual(shown(telling, 1, place, 500), (end, ""))
        for place in (0, 5, end, 1000000):
            self.assertEqual(shown(telling, 1, place, 0), (end, ""))

    def test_a_text_longer_than_500(self):
        telling = fed(LF + "\nDECODE BYTES", [200] * 300).save(0)
        text = signed(["LOG 1 1 1 300 0", "SUMS 0 0 0 0 0 0", "HELD 300 0 0 0 0 0 0 0 0 0" + " 200" * 300, "PEND"])
        self.assertEqual(shown(telling, 1, 0, 500), (len(text), text[:500]))
        self.assertEqual(shown(telling, 1, 500, 500), (len(text), text[500:1000]))
        self.assertEqual(shown(telling, 1, 1000, 500), (len(text), text[1000:]))

    def test_every_half_written_text(self):
        text = signed(["LOG 2 1 1 9 1"] + GOOD[1:])
        for size in range(len(text) + 2):
            telling = fed(JOINED, "a\n b\nc\nd\\").save(0).cutsave(0, size)
            self.assertEqual(shown(telling, 0, 0, 500), (min(size, len(text)), text[:size]))
            self.assertEqual(slot_text(telling, 0, 1), signed(GOOD))

    def test_a_half_written_text_is_in_the_way_of_no_later_one(self):
        telling = fed(LF, "ab").cutsave(0, 9)
        self.assertEqual(shown(telling, 1, 0, 500), (9, "LOG 1 1 1"))
        self.assertEqual(shown(telling.save(0), 1, 0, 500)[1], text_behind(LF, ""))
        self.assertEqual(shown(telling, 0, 0, 500), (0, ""))

    def test_power_leaves_the_slots(self):
        telling = fed(LF, "ab").save(0)
        text = slot_text(telling, 0, 1)
        telling.feed(0, 2, "c").cut().cut()
        self.assertEqual((slot_text(telling, 0, 0), slot_text(telling, 0, 1)), ("", text))

    def test_opening_again_empties_them(self):
        telling = fed(LF, "").save(0).save(0).close(0)
        self.assertNotEqual(slot_text(telling, 0, 1), "")
        telling.open(0, LF)
        self.assertEqual((slot_text(telling, 0, 0), slot_text(telling, 0, 1)), ("", ""))

    def test_of_each_sender_its_own(self):
        telling = fed(LF, "ab").open(1, LF).save(0)
        self.assertEqual((slot_text(telling, 0, 1), slot_text(telling, 1, 1)), (text_behind(LF, "ab"), ""))

    def test_refusals(self):
        for sender in OUTSIDE:
            self.assertEqual(Telling().slot(sender, 2, -1, 501).last(), [-1])
        self.assertEqual(Telling().slot(0, 2, -1, 501).last(), [-4])
        for told in ((2, 0, 0), (-1, 0, 0), (0, -1, 0), (0, 1000001, 0), (1, 0, -1), (1, 0, 501), (10 ** 18, 0, 0),
                     (0, 10 ** 18, 0), (0, 0, 10 ** 18), (0, 0, -10 ** 18)):
            self.assertEqual(fed(LF, "ab").save(0).slot(0, *told).last(), [-1], told)


class Readings(unittest.TestCase):
    def readings(self, texts):
        """What readslot answers to each text."""
        given = []
        for text in texts:
            given.append(Telling().open(0, LF).readslot(0, text).last())
        return given

    def check_read(self, texts):
        for text, answer in zip(texts, self.readings(texts)):
            self.assertEqual((len(answer), answer[0]), (7, 0), text)

    def check_not_read(self, texts):
        for text, answer in zip(texts, self.readings(texts)):
            self.assertEqual(answer, [1], text)


class ReadslotTest(Readings):
    def test_what_slot_shows_is_read(self):
        for rules, row in HOLDING:
            for place in range(len(row) + 1):
                for closed in (False, True):
                    telling = fed(rules, row[:place], closed).save(0).sums(0)
                    sums = telling.last()
                    answer = telling.readslot(0, slot_text(telling, 0, 1)).last()
                    self.assertEqual(answer, [0, 1, 1, 0 if closed else 1, place, sums[6], sums[7]])

    def test_the_form_of_the_answer(self):
        text = signed(["LOG 7 3 0 12 9"] + GOOD[1:] + ["REC 8 1 2 3 4 5 1"])
        self.assertEqual(self.readings([text]), [[0, 7, 3, 0, 12, 9, 2]])
        self.assertEqual(self.readings([signed(["LOG 0 0 1 0 0"] + GOOD[1:4])]), [[0, 0, 0, 1, 0, 0, 0]])

    def test_the_text_need_not_be_of_that_sender(self):
        telling = fed(JOINED, "a\n b\nc\nd\\").close(0).open(3, LF).readslot(3, signed(GOOD)).readslot(0, signed(GOOD))
        self.assertEqual(telling.answers()[-2:], [[0, 1, 1, 1, 9, 1, 1]] * 2)

    def test_a_byte_changed_left_out_or_added(self):
        text = signed(GOOD)
        self.check_read([text])
        for at in range(len(text)):
            others = [byte for byte in (0, 10, 32, 48, 49, 55, 65, 255, ord(text[at]) ^ 1) if byte != ord(text[at])]
            ahead = [ord(sign) for sign in text[:at]]
            behind = [ord(sign) for sign in text[at:]]
            self.check_not_read([ahead + [byte] + behind[1:] for byte in others])
            self.check_not_read([ahead + behind[1:]])
            self.check_not_read([ahead + [byte] + behind for byte in (10, 32, 48, 49)])
        self.check_not_read([text + more for more in ("\n", " ", "0", "\n\n", "\nSUM 0")])

    def test_half_a_text(self):
        text = signed(GOOD)
        self.check_not_read([text[:size] for size in range(len(text))])

    def check_lines(self, at, right, wrong):
        self.check_read([signed(GOOD[:at] + [line] + GOOD[at + 1:]) for line in right])
        self.check_not_read([signed(GOOD[:at] + [line] + GOOD[at + 1:]) for line in wrong])

    def test_log(self):
        self.check_lines(0, ["LOG 0 0 0 0 0", "LOG 9 99999 1 123456789 5"], [
            "LOG", "LOG 1 1 1 9", "LOG 1 1 1 9 1 1", "LOG 1 1 2 9 1", "LOG 01 1 1 9 1", "LOG 1 1 1 9 ", "LOG 1  1 1 9 1",
            " LOG 1 1 1 9 1", "log 1 1 1 9 1", "LOG -1 1 1 9 1", "LOG +1 1 1 9 1", "LOG 1 1 1 x 1", "LOG 1 1 1 9 00", "",
            "LOG 1 1 01 9 1", "LOG 1 1 10 9 1", "LOGS 1 1 1 9 1", "LOG1 1 1 9 1", "SUMS 1 1 1 9 1", "LOG 1 1 1 9 1\n"])

    def test_sums(self):
        self.check_lines(1, ["SUMS 9 8 7 6 5 4"], [
            "SUMS 0 0 0 0 0", "SUMS 0 0 0 0 0 0 0", "SUM 0 0 0 0 0 0", "SUMS", "SUMS 0 0 0 0 0 00", "SUMS 0 0 0  0 0"])

    def test_held(self):
        self.check_lines(2, ["HELD 5 5 0 1 5 5 5 0 1 5", "HELD 0 0 1 1 0 0 0 1 1 0 999 0"], [
            "HELD 0 0 0 0 0 0 0 0 0", "HELD 0 0 2 0 0 0 0 0 0 0", "HELD 0 0 0 2 0 0 0 0 0 0", "HELD 0 0 0 0 0 0 0 2 0 0",
            "HELD 0 0 0 0 0 0 0 0 2 0", "HELD 0 0 0 0 0 0 0 0 0 0 09", "HELD", "HELD 0 0 0 0 0 0 0 0 0 0 "])

    def test_pend(self):
        self.check_lines(3, ["PEND", "PEND 1 2 3 4 5 0", "PEND 1 2 3 4 5 1 9999999"], [
            "PEND ", "PEND 1 2 3 4 5", "PEND 1 2 3 4 5 2", "PEND 1 2 3 4 5 0 x", "REC 0 1 2 3 4 5 0", "PEND 0", "PEND 00"])

    def test_records(self):
        self.check_lines(4, ["REC 5 1 2 3 4 5 0", "REC 0 1 2 3 4 5 1 7\nREC 9 1 2 3 4 5 1"], [
            "REC", "REC 0 1 2 3 4 5", "REC 0 1 2 3 4 5 2", "PEND", "", "REC 0 1 2 3 4 5 1 7\n", "REC 00 1 2 3 4 5 1"])
        self.check_read([signed(GOOD[:4])])
        self.check_not_read([signed(GOOD[:3]), signed(GOOD[:2]), signed(GOOD[:1]), signed([]), signed(GOOD[::-1]),
                             signed(GOOD[1:]), signed(GOOD[:3] + GOOD[4:])])

    def test_the_check(self):
        ahead = "".join(line + "\n" for line in GOOD)
        right = int(signed(GOOD)[len(ahead) + 4:])
        self.check_read([ahead + "SUM " + str(right)])
        self.check_not_read([ahead + "SUM " + told for told in (
            str(right + 1), str(right - 1), "0" + str(right), " " + str(right), str(right) + " ", str(right + 65521), "", "x",
            str(right) + " 1", str(right) + "\n")])
        self.check_not_read([ahead + "SUM", ahead, ahead + "SUMS " + str(right), ahead + str(right)])

    def test_a_check_of_few_digits(self):
        for kept, digits in ((" " + "9" * 88, 2), (" 9" * 16, 3), (" 9", 4), (" 9 9", 5)):
            text = signed(GOOD[:2] + ["HELD 0 0 0 0 0 0 0 0 0 0" + kept] + GOOD[3:4])
            self.assertEqual(len(text.rpartition(" ")[2]), digits)
            self.check_read([text])
            self.check_not_read([text.replace("SUM ", "SUM 0")])

    def test_numbers_of_many_digits(self):
        for number in (10 ** 17, 10 ** 18 - 1, 10 ** 18, 123456789012345678901234567890123456, 7 * 10 ** 900 + 5):
            for told in ("LOG {} 1 1 0 0", "LOG 1 {} 1 0 0", "LOG 1 1 1 {} 0", "LOG 1 1 1 0 {}"):
                line = told.format(number)
                answer, = self.readings([signed([line] + GOOD[1:])])
                self.assertEqual(answer, [0] + [int(word) for word in line.split(" ")[1:]] + [1])
        answer, = self.readings([signed(["LOG " + "9" * 4500 + " 1 1 0 0"] + GOOD[1:])])
        self.assertEqual(answer, [0, 10 ** 4500 - 1, 1, 1, 0, 0, 1])
        self.check_lines(2, ["HELD " + "9" * 4400 + " 0 0 0 0 0 0 0 0 0"], ["HELD 0" + "9" * 4400 + " 0 0 0 0 0 0 0 0 0"])

    def test_nothing_is_no_checkpoint(self):
        self.check_not_read(["", "\n\n\n\n", "\n\n\n\nSUM 0", "SUM 0", "LOG", [0], [255] * 5000])

    def test_a_text_of_5000_bytes(self):
        text = signed(GOOD[:2] + ["HELD 0 0 0 0 0 0 0 0 0 0" + " 1" * 2445] + GOOD[3:4])
        self.assertGreater(len(text), 4900)
        self.check_read([text])

    def test_refusals(self):
        for sender in OUTSIDE:
            self.assertEqual(Telling().readslot(sender, [256]).last(), [-1])
        self.assertEqual(Telling().readslot(0, [256]).last(), [-4])
        for number in (-1, 256, 10 ** 18, -10 ** 18):
            self.assertEqual(self.readings([[number], [76, 79, number]]), [[-2], [-2]])
        self.assertEqual(self.readings([[10] * 20000, [10] * 20001]), [[1], [-2]])

    def test_of_a_closed_sender(self):
        self.assertEqual(fed(LF, "", True).readslot(0, signed(GOOD)).last(), [0, 1, 1, 1, 9, 1, 1])

    def test_it_changes_nothing(self):
        telling = fed(LF, "ab").save(0)
        before = [slot_text(telling, 0, 0), slot_text(telling, 0, 1)]
        telling.readslot(0, signed(["LOG 99 5 0 700 80"] + GOOD[1:]))
        self.assertEqual([slot_text(telling, 0, 0), slot_text(telling, 0, 1)], before)
        self.assertEqual(telling.ack(0).cut().ack(0).counts().feed(0, 2, "").answers()[-5:], [
            [2, 0, 1], [1], [2, 0, 1], [1, 1], [2, 0]])


if __name__ == "__main__":
    unittest.main()
