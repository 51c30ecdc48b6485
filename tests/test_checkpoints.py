import unittest

from piecelines.calls import answer_call
from piecelines.checkpoints import check_of, checkpoint_text, read_checkpoint
from piecelines.desk import Desk
from telling import Telling, records_of, row_of
from texts import GOOD, HOLDING, JOINED, LF, SLIP, signed, text_behind


def held_behind(rules, told, closed=False):
    return text_behind(rules, told, closed).split("\n")[2]


class TextTest(unittest.TestCase):
    def test_the_check(self):
        self.assertEqual(check_of(""), 0)
        self.assertEqual(check_of("AB"), 65 + 2 * 66)
        self.assertEqual(check_of("Z" * 100), 90 * 5050 % 65521)

    def test_a_text(self):
        self.assertEqual(text_behind(JOINED, "a\n b\nc\nd\\"), signed(GOOD))

    def test_a_new_sender(self):
        self.assertEqual(text_behind(LF, ""), signed([
            "LOG 1 1 1 0 0", "SUMS 0 0 0 0 0 0", "HELD 0 0 0 0 0 0 0 0 0 0", "PEND"]))

    def test_a_closed_sender(self):
        self.assertEqual(text_behind(LF, "ab", True), signed([
            "LOG 1 1 0 2 1", "SUMS 1 0 0 0 0 0", "HELD 0 2 0 0 0 0 0 0 0 0", "PEND", "REC 0 1 0 2 0 0 0 97 98"]))

    def test_sums(self):
        rules = "FRAME LINES LF\nLIMIT 3 DROP\nDECODE STRICT\nEMPTY SKIP"
        told = [97, 10, 10, 10, 98, 98, 98, 98, 10, 255, 99, 10]
        self.assertIn("\nSUMS 5 1 0 1 2 6\n", text_behind(rules, told))

    def test_sums_of_wrong_and_cut_frames(self):
        self.assertIn("\nSUMS 3 0 2 0 0 6\n", text_behind("FRAME COUNT BASE 10 SEP 32", "1 ax\n12 b", True))
        self.assertIn("\nSUMS 2 0 0 1 0 5\n", text_behind(LF + "\nLIMIT 2 CUT\nDECODE STRICT", b"abcd\n\xffbc\n"))

    def test_held_of_lines(self):
        self.assertEqual(held_behind(LF + "\nLIMIT 2 CUT", "x\nabcd"), "HELD 4 2 0 0 0 0 0 0 0 0 97 98")
        self.assertEqual(held_behind("FRAME LINES CRLF", "a\r"), "HELD 1 0 0 1 0 0 0 0 0 0 97")
        self.assertEqual(held_behind("FRAME LINES ANY", "a\r"), "HELD 0 2 0 1 0 0 0 0 0 0")
        self.assertEqual(held_behind("FRAME LINES ANY", "a\r\n"), "HELD 0 3 0 0 0 0 0 0 0 0")
        self.assertEqual(held_behind("FRAME LINES ANY", "a\r", True), "HELD 0 2 0 0 0 0 0 0 0 0")
        self.assertEqual(held_behind("FRAME LINES LF ESC 92", "\\xa\\"), "HELD 2 0 1 0 0 0 0 0 0 1 120 97")

    def test_held_of_slip(self):
        self.assertEqual(held_behind(SLIP, [192, 1, 219]), "HELD 1 1 1 0 0 0 0 0 0 0 1")
        self.assertEqual(held_behind(SLIP, [219, 1]), "HELD 1 0 0 0 0 0 0 0 0 1 1")

    def test_held_of_count(self):
        rules = "FRAME COUNT BASE 10 SEP 32"
        self.assertEqual(held_behind(rules, "0 012"), "HELD 0 2 0 0 12 3 0 0 0 0")
        self.assertEqual(held_behind(rules, "3 "), "HELD 0 0 0 0 0 0 4 0 0 0")
        self.assertEqual(held_behind(rules, "3 ab"), "HELD 2 0 0 0 0 0 2 0 0 0 97 98")
        self.assertEqual(held_behind(rules, "3 abc"), "HELD 0 5 0 0 0 0 0 0 0 0")
        self.assertEqual(held_behind(rules, "12x"), "HELD 0 0 0 0 0 0 0 1 0 0")
        self.assertEqual(held_behind(rules + "\nLIMIT 1 SPLIT", "3 ab"), "HELD 1 3 0 0 0 0 2 0 0 0 98")
        self.assertEqual(held_behind(rules, "12x", True), "HELD 0 3 0 0 0 0 0 0 0 0")

    def test_held_of_length(self):
        self.assertEqual(held_behind("FRAME LENGTH 3 BIG", [1, 2]), "HELD 0 0 0 0 258 2 0 0 0 0")
        self.assertEqual(held_behind("FRAME LENGTH 3 LITTLE", [1, 2]), "HELD 0 0 0 0 513 2 0 0 0 0")
        self.assertEqual(held_behind("FRAME LENGTH 1 BIG", [3, 97]), "HELD 1 0 0 0 0 0 3 0 0 0 97")
        self.assertEqual(held_behind("FRAME LENGTH 2 BIG", [255, 255, 97]), "HELD 0 0 0 0 0 0 0 0 1 0")
        self.assertEqual(held_behind("FRAME LENGTH 2 BIG", [255, 255, 97], True), "HELD 0 3 0 0 0 0 0 0 0 0")


class EveryPlaceTest(unittest.TestCase):
    def test_power_lost_behind_every_byte(self):
        for rules, row in HOLDING:
            due = records_of(rules, row)
            for place in range(len(row) + 1):
                with self.subTest(rules=rules, place=place):
                    telling = Telling().open(0, rules).feed(0, 0, row[:place]).save(0).feed(0, place, row[place:])
                    telling.close(0).take(0, 1000000).cut().feed(0, 0, row).close(0)
                    for number in range(len(due)):
                        telling.next(0).take(0, number + 1)
                    given = telling.next(0).answers()
                    self.assertEqual(given[9:-1:2], due)
                    self.assertEqual(given[-1], [-7])


def state_behind(rules, told, closed):
    desk = Desk()
    answer_call(1, desk, [0], [row_of(rules)])
    answer_call(2, desk, [0, 0], [row_of(told)])
    if closed:
        answer_call(3, desk, [0], [])
    return desk.senders[0].state


class ReadTest(unittest.TestCase):
    def test_all_that_is_written_is_read(self):
        for rules, told in [(rules, row[:place]) for rules, row in HOLDING for place in range(len(row) + 1)]:
            for closed in (False, True):
                state = state_behind(rules, told, closed)
                found = read_checkpoint(checkpoint_text(7, state))
                self.assertEqual(found.generation, 7)
                self.assertEqual(checkpoint_text(9, found.state), checkpoint_text(9, state))


class PowerTest(unittest.TestCase):
    def test_a_sender_that_was_never_saved_is_as_when_it_was_opened(self):
        telling = Telling().open(0, LF).feed(0, 0, "a\nb").cut().next(0).ack(0).feed(0, 1, "x").feed(0, 0, "c\n").next(0)
        self.assertEqual(telling.answers()[2:], [
            [1], [-7], [0, 0, 0], [-5], [2, 1], [0, 1, 0, 2, 0, 0, 0, 1, 99]])

    def test_a_closed_one_that_was_never_saved_is_open(self):
        telling = Telling().open(0, LF).close(0).open(0, LF).feed(0, 0, "a").close(0).cut().open(0, LF).feed(0, 0, "")
        telling.close(0).open(0, LF)
        self.assertEqual(telling.answers()[5:], [[1], [-3], [0, 0], [0], [0, 3]])

    def test_save_and_cut(self):
        telling = Telling().open(0, JOINED).feed(0, 0, "a\n b\nc\nd\\").save(0).ack(0).feed(0, 9, "n\n").close(0)
        telling.take(0, 9).cut().ack(0).next(0).take(0, 1).feed(0, 9, "x\n").rest(0).next(0).take(0, 2).next(0)
        self.assertEqual(telling.answers()[2:], [
            [9, 1], [9, 1, 1], [11, 1], [1], [0],
            [1], [9, 1, 1], [0, 2, 0, 5, 0, 0, 0, 4, 97, 10, 32, 98], [0], [11, 1], [1],
            [1, 1, 5, 7, 0, 0, 0, 1, 99], [1], [2, 1, 7, 11, 0, 1, 0, 2, 100, 120]])

    def test_a_saved_close_stays(self):
        telling = Telling().open(0, LF).feed(0, 0, "a").close(0).save(0).cut().feed(0, 1, "").close(0).rest(0).next(0)
        self.assertEqual(telling.answers()[3:], [[1, 1], [1], [-4], [-4], [0], [0, 1, 0, 1, 0, 0, 0, 1, 97]])

    def test_generations_go_on(self):
        telling = Telling().open(0, LF).save(0).ack(0).feed(0, 0, "a\n").save(0).ack(0).save(0).cut().save(0).ack(0)
        self.assertEqual(telling.answers()[1:], [
            [0, 1], [0, 0, 1], [2, 1], [2, 2], [2, 1, 2], [2, 3], [1], [2, 4], [2, 1, 4]])

    def test_power_may_be_lost_twice_with_one_checkpoint(self):
        telling = Telling().open(0, LF).feed(0, 0, "a\nb").save(0)
        for told in ("c", "d"):
            telling.feed(0, 3, told + "\n").take(0, 1).next(0).cut().next(0)
        self.assertEqual(telling.answers()[3:], [
            [5, 1], [1], [1, 1, 2, 5, 0, 0, 0, 2, 98, 99], [1], [0, 1, 0, 2, 0, 0, 0, 1, 97],
            [5, 1], [1], [1, 1, 2, 5, 0, 0, 0, 2, 98, 100], [1], [0, 1, 0, 2, 0, 0, 0, 1, 97]])

    def test_what_comes_behind_a_save_is_not_saved(self):
        telling = Telling().open(0, JOINED).feed(0, 0, "a\n").save(0).feed(0, 2, " b\nc\nd").cut().feed(0, 2, "e\n")
        telling.next(0)
        self.assertEqual(telling.answers()[4:], [[1], [4, 1], [0, 1, 0, 2, 0, 0, 0, 1, 97]])

    def test_power_is_lost_for_each_sender(self):
        telling = Telling().open(0, LF).open(1, LF).open(2, LF).feed(0, 0, "a").feed(1, 0, "bc").feed(2, 0, "def")
        telling.save(0).save(1).feed(1, 2, "x").cutsave(0, 1000000).feed(0, 9, "").feed(0, 1, "").feed(1, 2, "")
        telling.feed(2, 0, "").feed(1, 3, "")
        self.assertEqual(telling.answers()[9:], [[1], [-5], [1, 0], [2, 0], [0, 0], [-5]])

    def test_opening_again_empties_the_slots(self):
        telling = Telling().open(0, LF).feed(0, 0, "ab\n").take(0, 1).save(0).save(0).close(0).open(0, LF).ack(0)
        telling.feed(0, 0, "c").cut().feed(0, 0, "").save(0)
        self.assertEqual(telling.answers()[6:], [[0, 2], [0, 0, 0], [1, 0], [1], [0, 0], [0, 1]])

    def test_refused_opening_keeps_the_slots(self):
        telling = Telling().open(0, LF).feed(0, 0, "ab").save(0).open(0, LF).ack(0)
        self.assertEqual(telling.answers()[3:], [[-3], [2, 0, 1]])


class CutsaveTest(unittest.TestCase):
    def test_every_size_of_a_first_checkpoint(self):
        size = len(signed(GOOD))
        for number in range(size + 3):
            telling = Telling().open(0, JOINED).feed(0, 0, "a\n b\nc\nd\\").cutsave(0, number).ack(0)
            due = [[9], [9, 1, 1]] if number >= size else [[0], [0, 0, 0]]
            self.assertEqual(telling.answers()[2:], due)

    def test_every_size_of_a_second_checkpoint(self):
        size = len(signed(["LOG 2 1 1 9 1"] + GOOD[1:]))
        for number in list(range(size + 3)) + [1000000]:
            telling = Telling().open(0, JOINED).feed(0, 0, "a\n b").save(0).feed(0, 4, "\nc\nd\\")
            telling.cutsave(0, number).ack(0).save(0)
            due = [[9], [9, 1, 2], [9, 3]] if number >= size else [[4], [4, 0, 1], [4, 2]]
            self.assertEqual(telling.answers()[4:], due)

    def test_half_written_ones_one_after_the_other(self):
        telling = Telling().open(0, LF).feed(0, 0, "a").save(0).feed(0, 1, "b").save(0)
        telling.feed(0, 2, "c").cutsave(0, 5).ack(0).feed(0, 2, "c").cutsave(0, 0).ack(0)
        telling.feed(0, 2, "\n").cutsave(0, 1000000).ack(0).cutsave(0, 9).ack(0).next(0)
        self.assertEqual(telling.answers()[5:], [
            [3, 0], [2], [2, 0, 2], [3, 0], [2], [2, 0, 2], [3, 1], [3], [3, 1, 3], [3], [3, 1, 3],
            [0, 1, 0, 3, 0, 0, 0, 2, 97, 98]])

    def test_a_half_written_one_goes_into_the_slot_of_the_older_one(self):
        telling = Telling().open(0, LF).save(0).feed(0, 0, "a").save(0).feed(0, 1, "b").cutsave(0, 3)
        given = telling.ack(0).save(0).ack(0).answers()
        self.assertEqual(given[5:], [[1], [1, 0, 2], [1, 3], [1, 0, 3]])


if __name__ == "__main__":
    unittest.main()
