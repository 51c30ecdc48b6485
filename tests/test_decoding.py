import unittest

from piecelines.decoding import decoded_bytes, decoded_utf8
from telling import Telling, records_of

PIECES = [0, 65, 127, 128, 143, 144, 159, 160, 191, 192, 193, 194, 223, 224, 225, 236, 237, 238, 239,
          240, 241, 243, 244, 245, 255]

# A row with a wrong stretch, how many stretches it has, and its code points with marks.
WRONG = [
    ([128], 1, [65533]),
    ([191], 1, [65533]),
    ([192, 128], 2, [65533, 65533]),
    ([193, 191], 2, [65533, 65533]),
    ([194], 1, [65533]),
    ([194, 127], 1, [65533, 127]),
    ([194, 192], 2, [65533, 65533]),
    ([223, 97], 1, [65533, 97]),
    ([224, 159, 128], 3, [65533, 65533, 65533]),
    ([224, 160], 1, [65533]),
    ([224, 160, 97], 1, [65533, 97]),
    ([237, 160, 128], 3, [65533, 65533, 65533]),
    ([239, 191], 1, [65533]),
    ([240, 143, 128, 128], 4, [65533] * 4),
    ([240, 144, 128], 1, [65533]),
    ([240, 144, 128, 65], 1, [65533, 65]),
    ([244, 144, 128, 128], 4, [65533] * 4),
    ([244, 143, 191], 1, [65533]),
    ([245, 128, 128, 128], 4, [65533] * 4),
    ([255], 1, [65533]),
    ([240, 144, 194, 162], 1, [65533, 162]),
]

RIGHT = [
    ([0], [0]),
    ([127], [127]),
    ([194, 128], [128]),
    ([223, 191], [2047]),
    ([224, 160, 128], [2048]),
    ([225, 128, 128], [4096]),
    ([236, 191, 191], [53247]),
    ([237, 128, 128], [53248]),
    ([237, 159, 191], [55295]),
    ([238, 128, 128], [57344]),
    ([239, 191, 189], [65533]),
    ([239, 191, 191], [65535]),
    ([240, 144, 128, 128], [65536]),
    ([240, 191, 191, 191], [262143]),
    ([241, 128, 128, 128], [262144]),
    ([244, 143, 191, 191], [1114111]),
]


def python_points(row):
    return [ord(sign) for sign in bytes(row).decode("utf-8", "replace")]


class DecodingTest(unittest.TestCase):
    def test_right_bytes_by_mark_and_strict(self):
        for row, points in RIGHT:
            for way in ("MARK", "STRICT"):
                with self.subTest(row=row, way=way):
                    given = records_of("FRAME LINES LF\nDECODE " + way, row)
                    self.assertEqual(given, [[0, 1, 0, len(row), 0, 0, 0, len(points)] + points])

    def test_wrong_stretches_by_mark(self):
        for row, marks, points in WRONG:
            with self.subTest(row=row):
                given = records_of("FRAME LINES LF\nDECODE MARK", row)
                self.assertEqual(given, [[0, 1, 0, len(row), marks, 0, 0, len(points)] + points])

    def test_mark_is_the_way_that_is_not_told(self):
        self.assertEqual(records_of("FRAME LINES LF", [97, 255]), [[0, 1, 0, 2, 1, 0, 0, 2, 97, 65533]])

    def test_wrong_stretches_are_refused_by_strict(self):
        for row, marks, points in WRONG:
            with self.subTest(row=row):
                told = [97, 10] + row + [10, 98, 10]
                given = records_of("FRAME LINES LF\nDECODE STRICT", told)
                end = len(told)
                self.assertEqual(given, [[0, 1, 0, 2, 0, 0, 0, 1, 97], [1, 1, end - 2, end, 0, 0, 0, 1, 98]])

    def test_bytes_are_code_points_each(self):
        row = [byte for byte in range(256) if byte != 10]
        given = records_of("FRAME LINES LF\nDECODE BYTES", row)
        self.assertEqual(given, [[0, 1, 0, 255, 0, 0, 0, 255] + row])
        self.assertEqual(decoded_bytes(row).marks, 0)

    def test_a_told_65533_is_no_mark(self):
        self.assertEqual(decoded_utf8([239, 191, 189]).marks, 0)

    def test_a_frame_cut_within_a_code_point_has_a_wrong_stretch(self):
        rules = "FRAME LINES LF\nLIMIT 2 CUT\nDECODE "
        told = [97, 194, 162, 10]
        self.assertEqual(records_of(rules + "MARK", told), [[0, 1, 0, 4, 1, 0, 1, 2, 97, 65533]])
        self.assertEqual(records_of(rules + "STRICT", told), [])

    def test_short_rows_as_python_decodes_them(self):
        for first in range(256):
            for second in range(256):
                row = [first, second]
                self.assertEqual(decoded_utf8(row).points, python_points(row))

    def test_longer_rows_as_python_decodes_them(self):
        for first in PIECES:
            for second in PIECES:
                for third in PIECES:
                    for fourth in PIECES:
                        row = [first, second, third, fourth]
                        self.assertEqual(decoded_utf8(row).points, python_points(row))

    def test_what_is_decoded_is_not_changed(self):
        row = [97, 255]
        decoded_bytes(row).points.append(1)
        decoded_utf8(row).points.append(1)
        self.assertEqual(row, [97, 255])


def decode(mode, row):
    return Telling().decode(mode, row).last()


def encode(points):
    return Telling().encode(points).last()


class DecodeTest(unittest.TestCase):
    def test_right_bytes(self):
        for row, points in RIGHT + [([], []), ([97, 194, 128, 240, 144, 128, 128], [97, 128, 65536])]:
            self.assertEqual(decode(0, row), [0, 0, len(points)] + points)
            self.assertEqual(decode(1, row), [0, 0, len(points)] + points)
            self.assertEqual(decode(2, row), [0, 0, len(row)] + row)

    def test_wrong_stretches(self):
        for row, marks, points in WRONG:
            self.assertEqual(decode(0, row), [1, 0])
            self.assertEqual(decode(1, row), [0, marks, len(points)] + points)
            self.assertEqual(decode(2, row), [0, 0, len(row)] + row)

    def test_the_place_of_the_first_wrong_stretch(self):
        for row, marks, points in WRONG:
            for ahead, told in ([97], [97]), ([97, 195, 169], [97, 233]), ([226, 130, 172], [8364]), ([0, 10], [0, 10]):
                self.assertEqual(decode(0, ahead + row + [98]), [1, len(ahead)])
                self.assertEqual(decode(0, ahead + row + [98, 255]), [1, len(ahead)])
                self.assertEqual(decode(1, ahead + row + [98]), [0, marks, len(told + points) + 1] + told + points + [98])

    def test_a_told_65533_is_right(self):
        self.assertEqual(decode(0, [239, 191, 189]), [0, 0, 1, 65533])
        self.assertEqual(decode(1, [239, 191, 189, 255]), [0, 1, 2, 65533, 65533])

    def test_at_most_500_bytes(self):
        for mode in (0, 1, 2):
            self.assertEqual(decode(mode, [97] * 500), [0, 0, 500] + [97] * 500)
            self.assertEqual(decode(mode, [97] * 501), [-2])
        self.assertEqual(decode(1, [255] * 500), [0, 500, 500] + [65533] * 500)

    def test_refusals(self):
        for mode in (-1, 3, 10 ** 18, -10 ** 18):
            self.assertEqual(decode(mode, [97]), [-1])
            self.assertEqual(decode(mode, [256]), [-1])
        for mode in (0, 1, 2):
            for number in (-1, 256, 10 ** 18, -10 ** 18):
                self.assertEqual(decode(mode, [97, number]), [-2])
                self.assertEqual(decode(mode, [255, number]), [-2])


class EncodeTest(unittest.TestCase):
    def test_every_edge(self):
        for row, points in RIGHT:
            self.assertEqual(encode(points), [0, len(row)] + row)
        self.assertEqual(encode([]), [0, 0])
        self.assertEqual(encode([97, 233, 8364, 128512]), [0, 10, 97, 195, 169, 226, 130, 172, 240, 159, 152, 128])

    def test_what_is_no_code_point(self):
        for number in (-1, 55296, 56319, 56320, 57343, 1114112, 10 ** 18, -10 ** 18):
            self.assertEqual(encode([number]), [-2])
            self.assertEqual(encode([97, number, 98]), [-2])
        for number in (0, 55295, 57344, 65534, 65535, 1114111):
            self.assertEqual(encode([number])[0], 0)

    def test_at_most_500(self):
        self.assertEqual(encode([97] * 500), [0, 500] + [97] * 500)
        self.assertEqual(encode([1114111] * 500), [0, 2000] + [244, 143, 191, 191] * 500)
        self.assertEqual(encode([97] * 501), [-2])
        self.assertEqual(encode([55296] * 501), [-2])

    def test_what_it_makes_decode_gives_back(self):
        points = [point for point in list(range(0, 70000, 7)) + list(range(65530, 1114112, 991))
                  if not 55296 <= point <= 57343]
        for at in range(0, len(points), 100):
            part = points[at:at + 100]
            answer = encode(part)
            self.assertEqual(answer[2:], list("".join(chr(point) for point in part).encode()))
            self.assertEqual(decode(0, answer[2:]), [0, 0, len(part)] + part)
            self.assertEqual(decode(1, answer[2:]), [0, 0, len(part)] + part)


if __name__ == "__main__":
    unittest.main()
