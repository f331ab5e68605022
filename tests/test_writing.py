import unittest

from ringlayers.pieces import is_sheet
from ringlayers.reading import read
from ringlayers.writing import written

EIGHT = ((0, 3, 0, 24), (2, 5, 20, 7), (0, 1, 23, 1), (7, 8, 9, 10), (2, 5, 20, 7), (10, 20, 10, 20), (998, 999, 1, 2),
         (100, 200, 11, 12))

SHEETS_AND_TEXTS = (
    (((0, 3, 0, 24), (2, 5, 20, 7)), "0-3@0+24 2-5@20+7"),
    ((), "none"),
    (((2, 5, 20, 7),), "2-5@20+7"),
    (((2, 5, 20, 7), (2, 5, 20, 7)), "2-5@20+7 2-5@20+7"),
    (((0, 1, 0, 1),), "0-1@0+1"),
    (((0, 999, 23, 24),), "0-999@23+24"),
    (((998, 999, 23, 24),), "998-999@23+24"),
    (((10, 100, 10, 10),), "10-100@10+10"),
    (EIGHT, "0-3@0+24 2-5@20+7 0-1@23+1 7-8@9+10 2-5@20+7 10-20@10+20 998-999@1+2 100-200@11+12"),
)


class WritingTest(unittest.TestCase):
    def test_written(self):
        for sheet, text in SHEETS_AND_TEXTS:
            with self.subTest(text=text):
                self.assertTrue(is_sheet(sheet))
                told = written(sheet)
                self.assertIs(type(told), str)
                self.assertEqual(told, text)

    def test_read_again(self):
        for sheet, text in SHEETS_AND_TEXTS:
            with self.subTest(text=text):
                self.assertEqual(read(text), sheet)

    def test_another_order_is_another_text(self):
        self.assertEqual(written(((2, 5, 20, 7), (0, 3, 0, 24))), "2-5@20+7 0-3@0+24")

    def test_every_begin_and_wide(self):
        for begin in range(24):
            for wide in range(1, 25):
                with self.subTest(begin=begin, wide=wide):
                    sheet = ((begin, begin + wide, begin, wide),)
                    self.assertEqual(read(written(sheet)), sheet)

    def test_every_far(self):
        for outer in range(1, 1000):
            sheet = ((outer - 1, outer, 3, 4), (0, outer, 5, 6))
            self.assertEqual(read(written(sheet)), sheet)

    def test_same_again_and_nothing_changed(self):
        sheet = ((0, 3, 0, 24), (2, 5, 20, 7))
        self.assertEqual(written(sheet), "0-3@0+24 2-5@20+7")
        self.assertEqual(sheet, ((0, 3, 0, 24), (2, 5, 20, 7)))
        self.assertEqual(written(sheet), "0-3@0+24 2-5@20+7")


if __name__ == "__main__":
    unittest.main()
