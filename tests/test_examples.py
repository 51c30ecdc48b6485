"""The three examples of the document, by open, feed, close and next, and by frames and batch."""

import unittest

from telling import Telling


class ExamplesTest(unittest.TestCase):
    def test_crlf_with_a_split(self):
        telling = Telling().open(0, "FRAME LINES CRLF\nLIMIT 3 SPLIT").feed(0, 0, "abcd\r\n\r\r\n").close(0)
        telling.next(0).take(0, 1).next(0).take(0, 2).next(0).take(0, 3).next(0)
        self.assertEqual(telling.answers(), [
            [0, 1], [9, 3], [0],
            [0, 1, 0, 3, 0, 0, 1, 3, 97, 98, 99], [2],
            [1, 1, 3, 6, 0, 0, 0, 1, 100], [1],
            [2, 1, 6, 9, 0, 0, 0, 1, 13], [0],
            [-7]])

    def test_counted_frames(self):
        telling = Telling().open(0, "FRAME COUNT BASE 10 SEP 32").feed(0, 0, "3 abc0 x5 q\n1 z").close(0)
        telling.next(0).take(0, 1).next(0).take(0, 2).next(0).take(0, 3).next(0)
        self.assertEqual(telling.answers(), [
            [0, 1], [15, 3], [0],
            [0, 1, 0, 5, 0, 0, 0, 3, 97, 98, 99], [2],
            [1, 1, 5, 7, 0, 0, 0, 0], [1],
            [2, 1, 12, 15, 0, 0, 0, 1, 122], [0],
            [-7]])

    def test_joined_by_their_tail(self):
        telling = Telling().open(0, "FRAME LINES LF\nJOIN TAIL 92 WITH SPACE").feed(0, 0, "a\\\nb\n").close(0).next(0)
        self.assertEqual(telling.answers(), [[0, 1], [5, 1], [0], [0, 2, 0, 5, 0, 0, 0, 3, 97, 32, 98]])


class WholeExamplesTest(unittest.TestCase):
    def test_crlf_with_a_split(self):
        telling = Telling()
        telling.frames("FRAME LINES CRLF\nLIMIT 3 SPLIT", "abcd\r\n\r\r\n")
        telling.batch("FRAME LINES CRLF\nLIMIT 3 SPLIT", "abcd\r\n\r\r\n")
        self.assertEqual(telling.answers(), [
            [0, 3, 9, 0, 3, 6, 3, 0, 0, 97, 98, 99, 7, 3, 6, 3, 0, 0, 0, 100, 7, 6, 9, 3, 0, 0, 0, 13],
            [0, 3, 9, 1, 0, 3, 0, 0, 1, 97, 98, 99, 7, 1, 3, 6, 0, 0, 0, 100, 7, 1, 6, 9, 0, 0, 0, 13]])

    def test_counted_frames(self):
        telling = Telling()
        telling.frames("FRAME COUNT BASE 10 SEP 32", "3 abc0 x5 q\n1 z")
        telling.batch("FRAME COUNT BASE 10 SEP 32", "3 abc0 x5 q\n1 z")
        self.assertEqual(telling.answers(), [
            [0, 4, 9, 0, 5, 4, 0, 0, 0, 97, 98, 99, 6, 5, 7, 4, 0, 0, 0, 6, 7, 12, 1, 4, 5, 0, 7, 12, 15, 4, 0, 0, 0, 122],
            [0, 3, 9, 1, 0, 5, 0, 0, 0, 97, 98, 99, 6, 1, 5, 7, 0, 0, 0, 7, 1, 12, 15, 0, 0, 0, 122]])

    def test_joined_by_their_tail(self):
        telling = Telling()
        telling.frames("FRAME LINES LF\nJOIN TAIL 92 WITH SPACE", "a\\\nb\n")
        telling.batch("FRAME LINES LF\nJOIN TAIL 92 WITH SPACE", "a\\\nb\n")
        self.assertEqual(telling.answers(), [
            [0, 2, 8, 0, 3, 1, 0, 0, 0, 97, 92, 7, 3, 5, 1, 0, 0, 0, 98],
            [0, 1, 9, 2, 0, 5, 0, 0, 0, 97, 32, 98]])


if __name__ == "__main__":
    unittest.main()
