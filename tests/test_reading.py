import re
import unittest

from ringlayers.errors import NoPiece, NoText, RingError
from ringlayers.pieces import is_sheet
from ringlayers.reading import read
from ringlayers.writing import written

ALL_SIGNS = "".join(chr(code) for code in range(ord(" "), ord("~") + 1))
PIECE_FORM = re.compile(r"(0|[1-9][0-9]*)-(0|[1-9][0-9]*)@(0|[1-9][0-9]*)\+(0|[1-9][0-9]*)")
EXAMPLE = "0-3@0+24 2-5@20+7"
EIGHT = "0-3@0+24 2-5@20+7 0-1@23+1 7-8@9+10 2-5@20+7 10-20@10+20 998-999@1+2 100-200@11+12"


def is_writing(text):
    # Told anew from DOC.md, by another way than the program's.
    if text == "none":
        return True
    parts = text.split(" ")
    forms = [PIECE_FORM.fullmatch(part) for part in parts]
    if len(parts) > 8 or None in forms:
        return False
    for form in forms:
        inner, outer, begin, wide = [int(number) for number in form.groups()]
        if not (inner < outer < 1000 and begin < 24 and 0 < wide < 25):
            return False
    return True


def spoilt(text):
    for place in range(len(text) + 1):
        before, behind = text[:place], text[place:]
        yield before + behind[1:]
        yield before + behind[:1] + behind
        yield before + behind[1:2] + behind[:1] + behind[2:]
        yield before
        yield behind
        for sign in ALL_SIGNS:
            yield before + sign + behind
            yield before + sign + behind[1:]


class ReadTest(unittest.TestCase):
    def tell(self, text, sheet):
        with self.subTest(text=text):
            told = read(text)
            self.assertIs(type(told), tuple)
            for piece in told:
                self.assertIs(type(piece), tuple)
                self.assertEqual([type(number) for number in piece], [int] * 4)
            self.assertEqual(told, sheet)
            self.assertTrue(is_sheet(told))
            self.assertEqual(written(told), text)

    def test_the_documents_own(self):
        self.tell(EXAMPLE, ((0, 3, 0, 24), (2, 5, 20, 7)))

    def test_the_empty_sheet(self):
        self.tell("none", ())

    def test_one_piece(self):
        self.tell("2-5@20+7", ((2, 5, 20, 7),))

    def test_the_same_twice(self):
        self.tell("2-5@20+7 2-5@20+7", ((2, 5, 20, 7), (2, 5, 20, 7)))

    def test_the_least_and_the_greatest(self):
        self.tell("0-1@0+1", ((0, 1, 0, 1),))
        self.tell("998-999@23+24", ((998, 999, 23, 24),))
        self.tell("0-999@0+24", ((0, 999, 0, 24),))

    def test_eight_pieces(self):
        self.tell(" ".join(["2-5@20+7"] * 8), ((2, 5, 20, 7),) * 8)
        self.tell(EIGHT, ((0, 3, 0, 24), (2, 5, 20, 7), (0, 1, 23, 1), (7, 8, 9, 10), (2, 5, 20, 7), (10, 20, 10, 20),
                          (998, 999, 1, 2), (100, 200, 11, 12)))

    def test_same_again(self):
        self.tell(EXAMPLE, ((0, 3, 0, 24), (2, 5, 20, 7)))
        self.tell(EXAMPLE, ((0, 3, 0, 24), (2, 5, 20, 7)))


class RefusedTest(unittest.TestCase):
    def refuse(self, text):
        with self.subTest(text=text[:60]):
            for _ in range(2):
                with self.assertRaises(NoText) as caught:
                    read(text)
                self.assertIsInstance(caught.exception, RingError)
                self.assertIsInstance(caught.exception, ValueError)
                self.assertNotIsInstance(caught.exception, NoPiece)

    def test_nothing_and_blanks(self):
        for text in ("", " ", "  ", "        "):
            self.refuse(text)

    def test_blanks_too_many(self):
        for text in (" " + EXAMPLE, EXAMPLE + " ", "0-3@0+24  2-5@20+7", " 2-5@20+7", "2-5@20+7 ", "2-5@20+7  ",
                     "2 -5@20+7", "2- 5@20+7", "2-5 @20+7", "2-5@ 20+7", "2-5@20 +7", "2-5@20+ 7", " none", "none "):
            self.refuse(text)

    def test_none_with_something_beside_it(self):
        for text in ("none none", "nonenone", "none 2-5@20+7", "2-5@20+7 none", "none.", "None", "NONE", "non", "nonee",
                     "2-5@20+7none", "none2-5@20+7"):
            self.refuse(text)

    def test_a_part_left_out(self):
        for text in ("-5@20+7", "2-@20+7", "2-5@+7", "2-5@20+", "25@20+7", "2-520+7", "2-5@207", "2-5", "2-5@20", "2",
                     "@20+7", "2@20+7", "2-5+7", "-@+", "-", "@", "+", "2-5@20+7 ", "2-5@20+7 2-5"):
            self.refuse(text)

    def test_a_part_too_many(self):
        for text in ("2-5@20+7+1", "2-5@20+7-1", "2-5@20@20+7", "2-5-6@20+7", "2-5@20+7@20", "2-5@20+72-5@20+7",
                     "2-5@20+7,2-5@20+7", "2--5@20+7", "2-5@@20+7", "2-5@20++7"):
            self.refuse(text)

    def test_signs_in_one_anothers_place(self):
        for text in ("2@5-20+7", "2-5+20@7", "2+5@20-7", "2-5@20-7", "2+5@20+7", "2@5@20+7", "2-5-20+7", "2_5@20+7",
                     "2-5 20+7", "2-5@20 7"):
            self.refuse(text)

    def test_leading_noughts(self):
        for text in ("00-5@20+7", "02-5@20+7", "2-05@20+7", "2-5@020+7", "2-5@00+7", "2-5@20+07", "0-1@00+1",
                     "0-1@0+01", "000-1@0+1", "0-001@0+1", "0-1@01+1", "00002-5@20+7"):
            self.refuse(text)

    def test_signs_before_a_number(self):
        for sign in "+-":
            for text in (f"{sign}2-5@20+7", f"2-{sign}5@20+7", f"2-5@{sign}20+7", f"2-5@20+{sign}7", f"{sign}0-1@0+1",
                         f"0-1@{sign}0+1"):
                self.refuse(text)

    def test_other_signs_in_the_place_of_figures(self):
        for sign in ALL_SIGNS:
            if sign not in "0123456789":
                for text in (f"{sign}-5@20+7", f"2-{sign}@20+7", f"2-5@{sign}+7", f"2-5@20+{sign}", f"2-5@2{sign}+7",
                             f"2-5@{sign}2+7", f"2-5@20+1{sign}1"):
                    self.refuse(text)

    def test_what_python_takes_for_numbers(self):
        for number in ("1_0", "0x1", "1e1", "1.", "1.0", "0b1", "1j", "True", "None", "()"):
            for text in (f"{number}-99@20+7", f"0-{number}@20+7", f"2-5@{number}+7", f"2-5@20+{number}"):
                self.refuse(text)

    def test_inner_not_below_outer(self):
        for text in ("0-0@0+24", "5-5@0+24", "6-5@0+24", "10-9@0+24", "999-999@0+24", "999-0@0+24", "100-20@0+24"):
            self.refuse(text)

    def test_numbers_beyond_the_bounds(self):
        for text in ("0-1000@0+24", "999-1000@0+24", "1000-1001@0+24", "0-9999@0+24", "0-1@24+1", "0-1@25+1",
                     "0-1@99+1", "0-1@240+1", "0-1@0+0", "0-1@0+25", "0-1@0+99",
                     "0-1@0+240", "-1-1@0+24", "0-1@-1+24", "0-1@0+-1"):
            self.refuse(text)

    def test_one_piece_of_several_beyond_the_bounds(self):
        for place in range(8):
            parts = ["2-5@20+7"] * 8
            for wrong in ("5-5@20+7", "2-1000@20+7", "2-5@24+7", "2-5@20+0", "2-5@20+25", "none", ""):
                parts[place] = wrong
                self.refuse(" ".join(parts))

    def test_nine_pieces_and_more(self):
        for count in (9, 10, 16, 1000):
            self.refuse(" ".join(["2-5@20+7"] * count))
        self.refuse(EIGHT + " 2-5@20+7")

    def test_long_rows_of_figures(self):
        for length in (4, 5, 100, 4300, 4301, 5000, 100000):
            for figure in "019":
                row = figure * length
                for text in (row, f"{row}-5@20+7", f"2-{row}@20+7", f"2-5@{row}+7", f"2-5@20+{row}"):
                    self.refuse(text)

    def test_lists_and_tuples_as_python_shows_them(self):
        for text in ("()", "((2, 5, 20, 7),)", "(2,5,20,7)", "[]", "None", "0", "2 5 20 7"):
            self.refuse(text)


class AnyTextTest(unittest.TestCase):
    def judge(self, text):
        # No subTest here: there are very many of them.
        try:
            told = read(text)
        except NoText:
            self.assertFalse(is_writing(text), text)
        else:
            self.assertTrue(is_writing(text), text)
            self.assertTrue(is_sheet(told), text)
            self.assertEqual(written(told), text)

    def test_spoilt_at_one_place(self):
        for text in ("none", "0-1@0+1", EXAMPLE, "998-999@23+24", "99-100@9+19 0-10@19+2", EIGHT):
            self.assertTrue(is_writing(text))
            for one in spoilt(text):
                self.judge(one)

    def test_spoilt_at_two_places(self):
        for once in spoilt("0-9@2+2"):
            for place in range(len(once) + 1):
                for sign in " -+@0129n":
                    self.judge(once[:place] + sign + once[place:])

    def test_all_short_texts(self):
        for one in [""] + list(ALL_SIGNS):
            for other in ALL_SIGNS:
                self.judge(one + other)

    def test_all_small_numbers(self):
        for number in range(0, 1101):
            self.judge(f"{number}-999@0+1")
            self.judge(f"0-{number}@0+1")
            self.judge(f"0-1@{number}+1")
            self.judge(f"0-1@0+{number}")


if __name__ == "__main__":
    unittest.main()
