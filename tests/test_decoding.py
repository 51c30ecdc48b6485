import unittest

from piecelines.decoding import decoded_bytes, decoded_utf8
from telling import records_of

PIECES = [0, 65, 127, 128, 143, 144, 159, 160, 191, 192, 193, 194, 223, 224, 225, 236, 237, 238, 239,
          240, 241, 243, 244, 245, 255]

# A row with a wrong stretch, how many stretches it has, and its code points with marks.
WRONG = [
    ([128], 1, [65533]),
    ([191], 1, [65533]),
    ([192, 128], 2, [65533, 65533]),
    ([193, 191], 2, [65533, 65533]),
    ([194], 1, [65533]),
    ([194, 127], 1, [65533, 127]),
    ([194, 192], 2, [65533, 65533]),
    ([223, 97], 1, [65533, 97]),
    ([224, 159, 128], 3, [65533, 65533, 65533]),
    ([224, 160], 1, [65533]),
    ([224, 160, 97], 1, [65533, 97]),
    ([237, 160, 128], 3, [65533, 65533, 65533]),
    ([239, 191], 1, [65533]),
    ([240, 143, 128, 128], 4, [65533] * 4),
    ([240, 144, 128], 1, [65533]),
    ([240, 144, 128, 65], 1, [65533, 65]),
    ([244, 144, 128, 128], 4, [65533] * 4),
    ([244, 143, 191], 1, [65533]),
    ([245, 128, 128, 128], 4, [65533] * 4),
    ([255], 1, [65533]),
    ([240, 144, 194, 162], 1, [65533, 162]),
]

RIGHT = [
    ([0], [0]),
    ([127], [127]),
    ([194, 128], [128]),
    ([223, 191], [2047]),
    ([224, 160, 128], [2048]),
    ([225, 128, 128], [4096]),
    ([236, 191, 191], [53247]),
    ([237, 128, 128], [53248]),
    ([237, 159, 191], [55295]),
    ([238, 128, 128], [57344]),
    ([239, 191, 189], [65533]),
    ([239, 191, 191], [65535]),
    ([240, 144, 128, 128], [65536]),
    ([240, 191, 191, 191], [262143]),
    ([241, 128, 128, 128], [262144]),
    ([244, 143, 191, 191], [1114111]),
]


def python_points(row):
    return [ord(sign) for sign in bytes(row).decode("utf-8", "replace")]


class DecodingTest(unittest.TestCase):
    def test_right_bytes_by_mark_and_strict(self):
        for row, points in RIGHT:
            for way in ("MARK", "STRICT"):
                with self.subTest(row=row, way=way):
                    given = records_of("FRAME LINES LF\nDECODE " + way, row)
                    self.assertEqual(given, [[0, 1, 0, len(row), 0, 0, 0, len(points)] + points])

    def test_wrong_stretches_by_mark(self):
        for row, marks, points in WRONG:
            with self.subTest(row=row):
                given = records_of("FRAME LINES LF\nDECODE MARK", row)
                self.assertEqual(given, [[0, 1, 0, len(row), marks, 0, 0, len(points)] + points])

    def test_mark_is_the_way_that_is_not_told(self):
        self.assertEqual(records_of("FRAME LINES LF", [97, 255]), [[0, 1, 0, 2, 1, 0, 0, 2, 97, 65533]])

    def test_wrong_stretches_are_refused_by_strict(self):
        for row, marks, points in WRONG:
            with self.subTest(row=row):
                told = [97, 10] + row + [10, 98, 10]
                given = records_of("FRAME LINES LF\nDECODE STRICT", told)
                end = len(told)
                self.assertEqual(given, [[0, 1, 0, 2, 0, 0, 0, 1, 97], [1, 1, end - 2, end, 0, 0, 0, 1, 98]])

    def test_bytes_are_code_points_each(self):
        row = [byte for byte in range(256) if byte != 10]
        given = records_of("FRAME LINES LF\nDECODE BYTES", row)
        self.assertEqual(given, [[0, 1, 0, 255, 0, 0, 0, 255] + row])
        self.assertEqual(decoded_bytes(row).marks, 0)

    def test_a_told_65533_is_no_mark(self):
        self.assertEqual(decoded_utf8([239, 191, 189]).marks, 0)

    def test_a_frame_cut_within_a_code_point_has_a_wrong_stretch(self):
        rules = "FRAME LINES LF\nLIMIT 2 CUT\nDECODE "
        told = [97, 194, 162, 10]
        self.assertEqual(records_of(rules + "MARK", told), [[0, 1, 0, 4, 1, 0, 1, 2, 97, 65533]])
        self.assertEqual(records_of(rules + "STRICT", told), [])

    def test_short_rows_as_python_decodes_them(self):
        for first in range(256):
            for second in range(256):
                row = [first, second]
                self.assertEqual(decoded_utf8(row).points, python_points(row))

    def test_longer_rows_as_python_decodes_them(self):
        for first in PIECES:
            for second in PIECES:
                for third in PIECES:
                    for fourth in PIECES:
                        row = [first, second, third, fourth]
                        self.assertEqual(decoded_utf8(row).points, python_points(row))

    def test_what_is_decoded_is_not_changed(self):
        row = [97, 255]
        decoded_bytes(row).points.append(1)
        decoded_utf8(row).points.append(1)
        self.assertEqual(row, [97, 255])


if __name__ == "__main__":
    unittest.main()
