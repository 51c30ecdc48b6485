import unittest

from piecelines.senders import answers
from telling import Telling, parted, row_of

LF = "FRAME LINES LF"
OUTSIDE = (-1, 16, 10 ** 18, -10 ** 18)


def full_queue(telling, sender, records):
    """Feeds as many empty lines, 200 at most a feed but the last."""
    place = 0
    while place < records:
        size = min(200, records) if place == 0 else records - place
        telling.feed(sender, place, "\n" * size)
        place += size
    return telling


class ClearTest(unittest.TestCase):
    def test_all_is_as_at_the_beginning(self):
        telling = Telling().open(0, LF).feed(0, 0, "a\n").save(0).clear().cut().next(0).open(0, LF).ack(0).next(0)
        self.assertEqual(telling.answers()[3:], [[0], [0], [-4], [0, 1], [0, 0, 0], [-7]])

    def test_clear_at_the_beginning(self):
        self.assertEqual(Telling().clear().clear().answers(), [[0], [0]])


class OpenTest(unittest.TestCase):
    def test_how_often_it_was_opened(self):
        telling = Telling().open(0, LF).close(0).open(0, LF).close(0).open(0, LF).open(15, LF)
        self.assertEqual(telling.answers(), [[0, 1], [0], [0, 2], [0], [0, 3], [0, 1]])

    def test_it_is_new(self):
        telling = Telling().open(0, LF).feed(0, 0, "a\nb\n").take(0, 9).save(0).close(0)
        telling.open(0, "FRAME LINES CRLF").ack(0).feed(0, 0, "a\nb\r\n").next(0).feed(0, 6, "c")
        self.assertEqual(telling.answers()[5:], [
            [0, 2], [0, 0, 0], [5, 1], [0, 1, 0, 5, 0, 0, 0, 3, 97, 10, 98], [-5]])

    def test_a_sender_outside(self):
        for sender in OUTSIDE:
            self.assertEqual(Telling().open(sender, LF).last(), [-1])
            self.assertEqual(Telling().open(sender, [256]).last(), [-1])

    def test_it_is_open(self):
        self.assertEqual(Telling().open(0, LF).open(0, LF).last(), [-3])

    def test_records_wait(self):
        telling = Telling().open(0, LF).feed(0, 0, "a").close(0).open(0, LF).take(0, 1).open(0, LF)
        self.assertEqual(telling.answers(), [[0, 1], [1, 0], [1], [-6], [0], [0, 2]])

    def test_the_order_of_refusals(self):
        self.assertEqual(Telling().open(0, LF).feed(0, 0, "\n").open(0, [256]).last(), [-3])
        self.assertEqual(Telling().open(0, LF).feed(0, 0, "\n").close(0).open(0, [256]).last(), [-6])
        self.assertEqual(Telling().open(0, LF).feed(0, 0, "\n").close(0).open(0, "").last(), [-6])
        self.assertEqual(Telling().open(0, [256]).last(), [-2])
        self.assertEqual(Telling().open(0, [32] * 301).last(), [-2])
        self.assertEqual(Telling().open(0, LF).open(0, "").last(), [-3])

    def test_wrong_rules_change_nothing(self):
        telling = Telling().open(0, "WHAT").feed(0, 0, "").cut().open(0, LF).feed(0, 0, "a\nb").take(0, 1).save(0)
        telling.close(0).take(0, 2).open(0, "FRAME").open(0, [-1]).ack(0).cut().feed(0, 3, "c\n").next(0)
        self.assertEqual(telling.answers(), [
            [1, 1, 1], [-4], [0], [0, 1], [3, 1], [0], [3, 1],
            [1], [0], [1, 3, 1], [-2], [3, 1, 1], [1], [5, 1], [1, 1, 2, 5, 0, 0, 0, 2, 98, 99]])

    def test_senders_do_not_touch_each_other(self):
        telling = Telling().open(0, LF).open(1, "FRAME LINES CRLF").feed(0, 0, "a\r\nb").feed(1, 0, "c\nd\r\n")
        telling.close(0).next(1).next(0).take(0, 2).next(1)
        self.assertEqual(telling.answers()[2:], [
            [4, 1], [5, 1], [1], [0, 1, 0, 5, 0, 0, 0, 3, 99, 10, 100],
            [0, 1, 0, 3, 0, 0, 0, 2, 97, 13], [0], [0, 1, 0, 5, 0, 0, 0, 3, 99, 10, 100]])


class FeedTest(unittest.TestCase):
    def test_place_and_records(self):
        telling = Telling().open(0, LF).feed(0, 0, "a\nb").feed(0, 3, "").feed(0, 3, "\n\n").close(0)
        self.assertEqual(telling.answers(), [[0, 1], [3, 1], [3, 0], [5, 2], [0]])

    def test_bytes_before_the_place_are_passed_over(self):
        telling = Telling().open(0, LF).feed(0, 0, "ab").feed(0, 0, "xyc").feed(0, 1, "z").feed(0, 3, "\n").next(0)
        self.assertEqual(telling.answers()[1:], [
            [2, 0], [3, 0], [3, 0], [4, 1], [0, 1, 0, 4, 0, 0, 0, 3, 97, 98, 99]])

    def test_a_sender_outside_or_never_opened(self):
        for sender in OUTSIDE:
            self.assertEqual(Telling().feed(sender, -1, [256]).last(), [-1])
        self.assertEqual(Telling().feed(0, -1, [256]).last(), [-4])
        self.assertEqual(Telling().open(1, LF).feed(0, 0, "").last(), [-4])

    def test_bytes_that_are_none(self):
        for number in (-1, 256, 10 ** 18):
            self.assertEqual(Telling().open(0, LF).feed(0, 0, [97, number]).last(), [-2])
            self.assertEqual(Telling().open(0, LF).feed(0, 0, "ab").feed(0, 0, [97, number]).last(), [-2])
        self.assertEqual(Telling().open(0, LF).feed(0, 0, [0, 255]).last(), [2, 0])

    def test_at_most_500_bytes(self):
        self.assertEqual(Telling().open(0, LF).feed(0, 0, [97] * 500).last(), [500, 0])
        self.assertEqual(Telling().open(0, LF).feed(0, 0, [97] * 501).last(), [-2])

    def test_a_closed_sender(self):
        closed = Telling().open(0, LF).close(0)
        self.assertEqual(closed.feed(0, 0, "a").feed(0, -1, "").feed(0, 5, "").feed(0, 0, [256]).answers()[2:],
                         [[-4], [-4], [-4], [-2]])

    def test_places_outside(self):
        telling = Telling().open(0, LF).feed(0, -1, "a").feed(0, 1, "a").feed(0, -1, [256]).feed(0, 1, [256])
        self.assertEqual(telling.answers()[1:], [[-1], [-5], [-2], [-2]])
        self.assertEqual(Telling().open(0, LF).feed(0, 10 ** 18, "").feed(0, -10 ** 18, "").answers()[1:], [[-5], [-1]])

    def test_more_than_200_records(self):
        telling = full_queue(Telling().open(0, LF), 0, 200).feed(0, 200, "\n")
        telling.feed(0, 201, "\n").feed(0, 0, "").feed(0, 202, "").feed(0, -1, "").feed(0, 201, [256])
        telling.take(0, 1).feed(0, 201, "\n")
        self.assertEqual(telling.answers()[1:], [
            [200, 200], [201, 1], [-8], [-8], [-5], [-1], [-2], [200], [202, 1]])

    def test_closed_goes_ahead_of_the_queue(self):
        self.assertEqual(full_queue(Telling().open(0, LF), 0, 201).close(0).feed(0, 201, "").last(), [-4])

    def test_a_refusal_changes_nothing(self):
        telling = Telling().open(0, LF).feed(0, 0, "a").feed(0, 1, [98, 256]).feed(0, 2, "x").feed(0, -1, "x")
        telling.feed(0, 1, "\n").next(0)
        self.assertEqual(telling.answers()[5:], [[2, 1], [0, 1, 0, 2, 0, 0, 0, 1, 97]])


class CloseTest(unittest.TestCase):
    def test_what_is_held_ends_then_what_is_gathered(self):
        telling = Telling().open(0, LF + "\nJOIN BLANK").feed(0, 0, "a\n b").close(0).next(0)
        self.assertEqual(telling.answers()[2:], [[1], [0, 2, 0, 4, 0, 0, 0, 4, 97, 10, 32, 98]])
        telling = Telling().open(0, LF + "\nJOIN BLANK").feed(0, 0, "a\nb").close(0)
        self.assertEqual(telling.answers()[2:], [[2]])

    def test_nothing_held(self):
        self.assertEqual(Telling().open(0, LF).close(0).last(), [0])
        self.assertEqual(Telling().open(0, LF).feed(0, 0, "\n").close(0).last(), [0])

    def test_refusals(self):
        for sender in OUTSIDE:
            self.assertEqual(Telling().close(sender).last(), [-1])
        self.assertEqual(Telling().close(0).last(), [-4])
        self.assertEqual(Telling().open(0, LF).close(0).close(0).last(), [-4])


class RestTest(unittest.TestCase):
    def test_what_is_gathered_is_a_record(self):
        telling = Telling().open(0, LF + "\nJOIN BLANK").feed(0, 0, "a\n b\n c").rest(0).rest(0).feed(0, 7, "\n")
        telling.rest(0).next(0).take(0, 1).next(0)
        self.assertEqual(telling.answers()[1:], [
            [7, 0], [1], [0], [8, 0], [1], [0, 2, 0, 5, 0, 0, 0, 4, 97, 10, 32, 98], [1],
            [1, 1, 5, 8, 0, 0, 0, 2, 32, 99]])

    def test_a_tail_that_waits(self):
        telling = Telling().open(0, LF + "\nJOIN TAIL 43").feed(0, 0, "a+\n").rest(0).next(0)
        self.assertEqual(telling.answers()[1:], [[3, 0], [1], [0, 1, 0, 3, 0, 0, 0, 1, 97]])

    def test_of_a_closed_sender(self):
        self.assertEqual(Telling().open(0, LF + "\nJOIN BLANK").feed(0, 0, "a").close(0).rest(0).last(), [0])

    def test_refusals(self):
        for sender in OUTSIDE:
            self.assertEqual(Telling().rest(sender).last(), [-1])
        self.assertEqual(Telling().rest(0).last(), [-4])


class NextTest(unittest.TestCase):
    def test_the_first_record_waits_on(self):
        telling = Telling().open(0, LF).feed(0, 0, "a\nb\n").next(0).next(0)
        self.assertEqual(telling.answers()[2:], [[0, 1, 0, 2, 0, 0, 0, 1, 97]] * 2)

    def test_marks_odd_ones_and_cut(self):
        telling = Telling().open(0, LF + " ESC 92\nLIMIT 2 CUT").feed(0, 0, [255, 92, 97, 98, 10]).next(0)
        self.assertEqual(telling.last(), [0, 1, 0, 5, 1, 1, 1, 2, 65533, 97])

    def test_an_empty_row(self):
        self.assertEqual(Telling().open(0, LF).feed(0, 0, "\n").next(0).last(), [0, 1, 0, 1, 0, 0, 0, 0])

    def test_of_a_closed_sender(self):
        self.assertEqual(Telling().open(0, LF).feed(0, 0, "a").close(0).next(0).last(), [0, 1, 0, 1, 0, 0, 0, 1, 97])

    def test_refusals(self):
        for sender in OUTSIDE:
            self.assertEqual(Telling().next(sender).last(), [-1])
        self.assertEqual(Telling().next(0).last(), [-4])
        self.assertEqual(Telling().open(0, LF).next(0).last(), [-7])
        self.assertEqual(Telling().open(0, LF).feed(0, 0, "a").next(0).last(), [-7])


class TakeTest(unittest.TestCase):
    def test_records_below_the_number(self):
        telling = Telling().open(0, LF).feed(0, 0, "a\nb\nc\n").take(0, 0).take(0, 2).next(0).take(0, 1).take(0, 1000000)
        self.assertEqual(telling.answers()[2:], [[3], [1], [2, 1, 4, 6, 0, 0, 0, 1, 99], [1], [0]])

    def test_later_records_go_on_in_number(self):
        telling = Telling().open(0, LF).feed(0, 0, "a\n").take(0, 100).feed(0, 2, "b\n").next(0)
        self.assertEqual(telling.answers()[2:], [[0], [4, 1], [1, 1, 2, 4, 0, 0, 0, 1, 98]])

    def test_refusals(self):
        for sender in OUTSIDE:
            self.assertEqual(Telling().take(sender, -1).last(), [-1])
        self.assertEqual(Telling().take(0, -1).last(), [-4])
        for number in (-1, 1000001, 10 ** 18):
            telling = Telling().open(0, LF).feed(0, 0, "a\n").take(0, number).take(0, 0)
            self.assertEqual(telling.answers()[2:], [[-1], [1]])


class SaveCutAckTest(unittest.TestCase):
    def test_refusals(self):
        for sender in OUTSIDE:
            telling = Telling().save(sender).cutsave(sender, 0).cutsave(sender, -1).ack(sender)
            self.assertEqual(telling.answers(), [[-1]] * 4)
        telling = Telling().save(0).cutsave(0, 0).cutsave(0, -1).ack(0)
        self.assertEqual(telling.answers(), [[-4]] * 4)
        for number in (-1, 1000001):
            telling = Telling().open(0, LF).feed(0, 0, "ab").cutsave(0, number).feed(0, 2, "").ack(0)
            self.assertEqual(telling.answers()[2:], [[-1], [2, 0], [0, 0, 0]])

    def test_cut_tells_how_many_were_opened(self):
        telling = Telling().cut().open(3, LF).cut().open(5, LF).close(5).cut().open(5, LF).close(3).open(3, LF).cut()
        given = telling.answers()
        self.assertEqual([given[0], given[2], given[5], given[-1]], [[0], [1], [2], [2]])


class CountsTest(unittest.TestCase):
    def test_at_the_beginning(self):
        self.assertEqual(Telling().counts().answers(), [[0, 0]])

    def test_open_and_closed_senders(self):
        telling = Telling().open(3, LF).counts().open(15, LF).counts().close(3).counts().close(15).counts()
        self.assertEqual([answer for answer in telling.answers() if len(answer) == 2 and answer != [0, 1]],
                         [[1, 1], [2, 2], [1, 2], [0, 2]])

    def test_a_sender_opened_again_counts_once(self):
        telling = Telling().open(0, LF).close(0).open(0, LF).counts().close(0).open(0, LF).close(0).counts()
        self.assertEqual([telling.answers()[3], telling.last()], [[1, 1], [0, 1]])

    def test_refused_and_wrong_openings_do_not_count(self):
        telling = Telling().open(16, LF).open(0, [256]).open(0, "WHAT").counts().open(0, LF).open(0, LF).counts()
        self.assertEqual([telling.answers()[3], telling.last()], [[0, 0], [1, 1]])

    def test_behind_a_cut(self):
        telling = Telling().open(0, LF).open(1, LF).open(2, LF).close(0).close(1).save(1).close(2).counts().cut().counts()
        self.assertEqual(telling.answers()[7:], [[0, 3], [3], [2, 3]])
        telling = Telling().open(0, LF).save(0).close(0).counts().cut().counts()
        self.assertEqual(telling.answers()[3:], [[0, 1], [1], [1, 1]])

    def test_behind_clear(self):
        telling = Telling().open(0, LF).open(1, LF).close(1).clear().counts().open(1, LF).counts()
        self.assertEqual(telling.answers()[3:], [[0], [0, 0], [0, 1], [1, 1]])

    def test_all_sixteen(self):
        telling = Telling()
        for sender in range(16):
            telling.open(sender, LF)
        self.assertEqual(telling.counts().last(), [16, 16])


# Of each sender, each call that only tells or is refused, whatever was done before.
def telling_calls(telling, sender):
    text = "LOG 7 1 0 5 5\nSUMS 0 0 0 0 0 0\nHELD 0 0 0 0 0 0 0 0 0 0\nPEND\nSUM "
    text += str(sum(ord(sign) * at for at, sign in enumerate(text[:-4], 1)) % 65521)
    telling.next(sender).ack(sender).slot(sender, 0, 0, 500).slot(sender, 1, 3, 9).readslot(sender, text)
    telling.readslot(sender, "x").held(sender).sums(sender).rule(sender).try_rules(LF).decode(1, "a").encode([97])
    telling.frames(LF, "a\n").batch(LF, "a\n").counts().feed(sender, -1, "x").feed(sender, 10 ** 6, "x")
    telling.feed(sender, 0, [256]).take(sender, -1).cutsave(sender, -1).open(sender, "WHAT").open(sender, [256])
    telling.open(-1, LF).slot(sender, 2, 0, 0).decode(3, "a").encode([55296]).frames("", "a").batch(LF, [256])
    telling.rule(16).held(-1).sums(16).readslot(sender, [256]).take(sender, 0)
    return telling


class OnlyTellingTest(unittest.TestCase):
    def done(self, between):
        """The answers of save, cut, cutsave, ack and others; between tells whether calls that only tell stand there."""
        telling = Telling()
        places = []
        rules = "FRAME LINES CRLF ESC 92\nLIMIT 3 SPLIT\nJOIN TAIL 43 MOST 3"
        for name, told in [("open", [0, rules]), ("feed", [0, 0, "ab+\r\ncd\\"]), ("save", [0]), ("feed", [0, 8, "\n\r"]),
                           ("cutsave", [0, 50]), ("ack", [0]), ("feed", [0, 8, "x\r\ne+\r\n"]), ("save", [0]), ("next", [0]),
                           ("take", [0, 1]), ("cut", []), ("next", [0]), ("rest", [0]), ("cutsave", [0, 10 ** 6]),
                           ("sums", [0]), ("close", [0]), ("ack", [0]), ("cut", []), ("held", [0]), ("close", [0]),
                           ("save", [0]), ("take", [0, 9]), ("open", [0, LF]), ("ack", [0]), ("rule", [0]), ("counts", [])]:
            getattr(telling, name)(*told)
            places.append(len(parted(answers(telling.calls))) - 1)
            if between:
                telling_calls(telling, 0)
        given = telling.answers()
        return [given[place] for place in places]

    def test_they_change_nothing(self):
        done = self.done(False)
        self.assertEqual(self.done(True), done)
        self.assertEqual(len([answer for answer in done if answer[0] < 0]), 0)

    def test_told_twice_they_answer_alike(self):
        for telling in (Telling(), Telling().open(0, LF), Telling().open(0, LF).feed(0, 0, "a\nb").save(0),
                        Telling().open(0, LF).feed(0, 0, "a\nb").close(0).cutsave(0, 9)):
            size = len(telling.answers()) if telling.calls else 0
            given = telling_calls(telling_calls(telling, 0), 0).answers()[size:]
            self.assertEqual(given[:len(given) // 2], given[len(given) // 2:])


class AnswersTest(unittest.TestCase):
    def test_the_list_handed_in_is_not_changed(self):
        telling = Telling().open(0, LF + "\nDECODE BYTES\nJOIN BLANK").feed(0, 0, "a\n b\nc").save(0).rest(0).next(0)
        telling.take(0, 1).cutsave(0, 10).feed(0, 0, [300]).ack(0).close(0).cut()
        telling_calls(telling, 0).clear().decode(2, [200]).frames(LF + "\nDECODE BYTES", "a\nb").batch(LF, "a\nb")
        before = list(telling.calls)
        answers(telling.calls)
        self.assertEqual(telling.calls, before)

    def test_an_answer_is_not_part_of_what_was_handed_in(self):
        calls = Telling().open(0, LF).calls
        answers(calls).append(7)
        self.assertEqual(answers(calls), [2, 0, 1])

    def test_nothing_is_kept_from_one_time_to_the_next(self):
        calls = Telling().open(0, LF).feed(0, 0, "a\n").save(0).next(0).calls
        first = answers(calls)
        telling = Telling().next(0).ack(0).cut().slot(0, 0, 0, 0).held(0).sums(0).rule(0).counts()
        self.assertEqual(telling.answers(), [[-4], [-4], [0], [-4], [-4], [-4], [-4], [0, 0]])
        self.assertEqual(answers(calls), first)

    def test_each_call_is_told_twice_with_the_same_answer(self):
        calls = telling_calls(Telling().open(0, LF).feed(0, 0, "a\nb").save(0), 0).calls
        first = answers(calls)
        answers(Telling().open(0, "FRAME LINES CRLF").feed(0, 0, "c\r\n").save(0).cut().calls)
        self.assertEqual(answers(calls), first)

    def test_the_form_of_an_answer(self):
        given = answers(Telling().open(0, LF).feed(0, 0, "a\n").next(0).next(1).calls)
        self.assertEqual(given, [2, 0, 1, 2, 2, 1, 9, 0, 1, 0, 2, 0, 0, 0, 1, 97, 1, -4])
        self.assertEqual(answers([0]), [1, 0])

    def test_all_is_whole_numbers(self):
        telling = Telling().open(0, LF + "\nLIMIT 1 CUT").feed(0, 0, "ab\n").next(0).save(0).cut().next(0).ack(0)
        telling_calls(telling, 0)
        self.assertEqual({type(number) for number in answers(telling.calls)}, {int})

    def test_a_long_line_of_calls(self):
        telling = Telling().open(0, LF + "\nDECODE BYTES")
        for at in range(30):
            telling.feed(0, 500 * at, [200] * 499 + [10])
        while len(telling.calls) < 16000:
            telling.feed(0, 15000, [10])
        given = parted(answers(telling.calls))
        self.assertEqual(given[:2], [[0, 1], [500, 1]])
        self.assertEqual(given[30], [15000, 1])

    def test_rows_are_told_with_their_length(self):
        rules = row_of(LF)
        calls = [1, 2, len(rules)] + rules + [2, 2, 0, 0, 2, 2, 0, 1, 10, 5, 2]
        self.assertEqual(parted(answers(calls)), [[0, 1], [0, 0], [1, 1], [0, 1, 0, 1, 0, 0, 0, 0]])


if __name__ == "__main__":
    unittest.main()
