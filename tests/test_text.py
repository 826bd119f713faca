"""Point 25: ratios, rows and transfers as strings, and back, and the table of transfers."""

import unittest
from fractions import Fraction
from math import gcd

from stirred.errors import InvalidFormatError, InvalidRatioError, InvalidRowsError, InvalidTransfersError
from stirred.mixtures import Mixture
from stirred.ratios import Ratio, is_ratio
from stirred.text import format_ratio, format_rows, format_transfers, parse_ratio, parse_transfers, table_of
from stirred.vessels import contents_after, shares_after
from tests.faults import check_error, check_faults, stays
from tests.model import ALL, GREATEST, LONGEST, MILLION, contents_behind, ratios_of, volumes_behind
from tests.values import (NO_LISTS, NOT_INTEGERS, Anything, FAR_TRANSFERS, ListBelow, T, V, WRONG_TRANSFERS, nested,
                          pair)

LONG = 10 ** 31 - 1

NO_STRINGS = [value for value in NOT_INTEGERS if not isinstance(value, str)] + [
    0, 1, 3, (), [], [""], ["3"], ["0>1:1"], (0, 1, 1), [(0, 1, 1)], b"", b"3", b"0>1:1", {"3": 1}, Anything(),
    Mixture({}), nested(20), nested(5000)]

# Signs that are digits or spaces elsewhere, each with the number that Python might read.
OTHER_DIGITS = ["\u0663", "\u00b3", "\uff13", "\u0967", "\u2460", "\u00bd", "\u2153"]

NO_RATIO_STRINGS = [
    "", " ", "-", "/", "-/", "--", "+", "0x1", "1e3", "1.0", "1.5", ".5", "one", "None", "a", "1a", "a1", "True", "00",
    "01", "007", "-01", "-007", "01/2", "1/02", "001/2", "-0", "+0", "+3", "+3/4", "-+3", "--3", "- 3", "3-", "3/-4",
    "-3/-4", "3/+4", "-3/+4", "--3/4", "6/4", "3/1", "-3/1", "2/2", "0/1", "0/2", "-0/2", "-0/1", "10/5", "5/10",
    "-6/4", "100/10", "1/0", "0/0", "-1/0", "1/00", "1/2/3", "1//2", "/2", "1/", "-/2", "/", "//", "1/2/", "/1/2",
    " 3", "3 ", " 3/4", "3/4 ", "3 /4", "3/ 4", "3 / 4", "- 3/4", "3 4", "7/3 2/3", "3\n", "\n3", "3/4\n", "3\n/4",
    "3\t", "\t3", "1_000", "1_0/3", "3/1_0", "_3", "3_", "3:4", "3>4", "3\\4", "3|4", "3,4", "3;4", "3.", "3/4.",
    "(3)", "'3'", "\"3\"", "1" * 32, "-" + "1" * 32, "1" * 32 + "/7", "7/" + "1" * 32, "-7/" + "1" * 32, "0" * 32,
    "0" * 31, "9" * 2000, "/" * 2000, "-" * 2000, " " * 2000, "1/3" + " " * 1997, "a" * 2000, "1/" + "9" * 1998,
    "0>1:1", "inf", "nan", "1/1",
] + OTHER_DIGITS + [f"1{sign}" for sign in OTHER_DIGITS] + [f"7/{sign}" for sign in OTHER_DIGITS] + [
    f"{sign}/7" for sign in OTHER_DIGITS]

NO_TRANSFER_STRINGS = [
    " ", "  ", "0", "01", "0>1", "0>1:", "0:1", ">", ":", ">:", "0>:1", ">1:1", "0>1:1:", "0>1:1:1", "0>1>2:1",
    ">0>1:1", "0>>1:1", "0>1::1", "0:1>1", "1:0>1", "0<1:1", "0-1:1", "0>1;1", "0>1/1", "0,1,1", "(0, 1, 1)",
    "0>1:1,1>0:1", "0>1:1;1>0:1", "0>1:1\n1>0:1", "0>1:1\t1>0:1", "0>1:1  1>0:1", " 0>1:1", "0>1:1 ", " 0>1:1 ",
    "0>1:1\n", "\n0>1:1", "0 >1:1", "0> 1:1", "0>1 :1", "0>1: 1", "0>1 1>0", "0>1:1 x", "x 0>1:1", "0>1:1 1>0:1 ",
    "0>1:1 0>0:1", "0>0:1", "1>1:1", "7>7:1", "0>8:1", "8>0:1", "0>10:1", "10>0:1", "0>1:0", "0>1:1000001",
    "0>1:9999999", "0>1:" + "1" * 31, "0>1:" + "1" * 32, "0>" + "1" * 31 + ":1", "1" * 31 + ">1:1",
    "0>" + "1" * 32 + ":1", "00>1:1", "0>01:1", "0>1:01", "0>1:00", "0>1:" + "0" * 30 + "1", "-0>1:1", "0>-1:1",
    "0>1:-1", "+0>1:1", "0>+1:1", "0>1:+1", "-1>0:1", "0>1:1.0", "0>1:1e3", "0>1:1_0", "a>1:1", "0>b:1", "0>1:c",
    "0x0>1:1", "0>1:1/1", "0>1:2/1", "[(0, 1, 1)]", "None", "0>1:1 0>1:0", " ".join(["0>1:1"] * 25),
    " ".join(["0>1:1"] * 26), " ".join(["0>1:1"] * 333), "0>1:1" * 400, " " * 2000, "9" * 2000, ">" * 2000,
    "0>1:" + "9" * 1996, ("0>1:1 " * 400)[:2000], ("0>1:1  " * 400)[:2000],
] + [word for sign in OTHER_DIGITS for word in (f"{sign}>1:1", f"0>{sign}:1", f"0>1:{sign}", f"0>1:1{sign}")]


def written(fraction):
    """Return what Python's own fractions write, which is the same form."""
    return str(Fraction(fraction))


class Ratios(unittest.TestCase):
    def test_of_the_document(self):
        self.assertEqual(stays(self, format_ratio, Ratio(-6, 4)), "-3/2")
        self.assertEqual(stays(self, parse_ratio, "7/3"), Ratio(7, 3))

    def test_small_ones(self):
        for ratio, text in [(Ratio(0), "0"), (Ratio(0, 7), "0"), (Ratio(1), "1"), (Ratio(-1), "-1"),
                            (Ratio(1, 2), "1/2"), (Ratio(-1, 2), "-1/2"), (Ratio(6, 3), "2"), (Ratio(6, 4), "3/2"),
                            (Ratio(-10, 5), "-2"), (Ratio(10), "10"), (Ratio(10, 7), "10/7"),
                            (Ratio(7, 10), "7/10"), (Ratio(100, 30), "10/3")]:
            self.assertEqual(stays(self, format_ratio, ratio), text)
            self.assertEqual(stays(self, parse_ratio, text), ratio)

    def test_there_and_back(self):
        for top in range(-30, 31):
            for bottom in range(1, 25):
                ratio = Ratio(top, bottom)
                text = format_ratio(ratio)
                self.assertEqual(text, written(Fraction(top, bottom)))
                self.assertEqual(pair(parse_ratio(text)), pair(ratio))

    def test_only_the_lowest_terms(self):
        for top in range(-12, 13):
            for bottom in range(13):
                text = f"{top}/{bottom}"
                if bottom > 1 and gcd(top, bottom) == 1:
                    self.assertEqual(parse_ratio(text), Ratio(top, bottom))
                else:
                    check_error(self, InvalidFormatError, parse_ratio, text)

    def test_numbers_of_31_digits(self):
        for top, bottom in [(LONG, 1), (-LONG, 1), (1, LONG), (-1, LONG), (LONG, LONG - 1), (LONG - 1, LONG),
                            (-LONG, LONG - 1), (10 ** 30, 10 ** 30 + 1)]:
            text = format_ratio(Ratio(top, bottom))
            self.assertEqual(text, written(Fraction(top, bottom)))
            self.assertEqual(pair(parse_ratio(text)), (top, bottom))

    def test_longer_numbers_are_written_but_not_read(self):
        for top, bottom in [(10 ** 31, 1), (-10 ** 31, 1), (1, 10 ** 31), (10 ** 31, 3), (10 ** 399 + 7, 10 ** 398),
                            (10 ** 3999 + 1, 10 ** 3998)]:
            text = format_ratio(Ratio(top, bottom))
            self.assertEqual(text, written(Fraction(top, bottom)))
            check_error(self, InvalidFormatError, parse_ratio, text[:2000])

    def test_results(self):
        self.assertIs(format_ratio(Ratio(1, 2)).__class__, str)
        for text in ("0", "-3", "3/4"):
            self.assertIs(is_ratio(parse_ratio(text)), True)

    def test_values_that_are_no_ratios(self):
        for value in [value for value in NOT_INTEGERS if not isinstance(value, Ratio)] + [
                0, 3, "3", "7/3", (7, 3), [Ratio(7, 3)], Fraction(7, 3), Anything(), Mixture({0: Ratio(1)}),
                nested(5000)]:
            check_error(self, InvalidRatioError, format_ratio, value)

    def test_strings_that_are_no_ratios(self):
        for text in NO_RATIO_STRINGS:
            check_error(self, InvalidFormatError, parse_ratio, text)

    def test_each_other_sign(self):
        # One sign more or another one, at each place: only digits, - and / can make another ratio.
        for text in ("0", "7", "-7", "12/35", "-12/35"):
            for sign in map(chr, range(256)):
                for at in range(len(text) + 1):
                    for other in (text[:at] + sign + text[at:], text[:at] + sign + text[at + 1:]):
                        if not sign.isascii() or sign not in "0123456789-/":
                            with self.assertRaises(InvalidFormatError):
                                parse_ratio(other)

    def test_values_that_are_no_strings(self):
        for value in NO_STRINGS + [Ratio(7, 3)]:
            check_error(self, InvalidFormatError, parse_ratio, value)

    def test_arguments_by_name(self):
        self.assertEqual([format_ratio(ratio=Ratio(7, 3)), pair(parse_ratio(text="7/3"))], ["7/3", (7, 3)])


class Rows(unittest.TestCase):
    def test_of_the_document(self):
        self.assertEqual(format_rows(contents_after(V, T)), ["7/3 2/3", "2/3 4/3"])
        self.assertEqual(format_rows(shares_after(V, T)), ["7/9 2/9", "1/3 2/3"])

    def test_small_ones(self):
        for rows, wanted in [([[0]], ["0"]), ([["-1/2"]], ["-1/2"]), ([[1, 0], [0, 1]], ["1 0", "0 1"]),
                             ([[1], [2], ["5/3"]], ["1", "2", "5/3"]), ([[1, "-5/3", 10]], ["1 -5/3 10"]),
                             ([["6/4"] * 8] * 8, ["3/2 3/2 3/2 3/2 3/2 3/2 3/2 3/2"] * 8)]:
            self.assertEqual(stays(self, format_rows, ratios_of(rows)), wanted)

    def test_many(self):
        for volumes, transfers in ALL:
            wanted = [" ".join(map(written, row)) for row in contents_behind(volumes, transfers)]
            self.assertEqual(stays(self, format_rows, contents_after(volumes, transfers)), wanted)

    def test_the_list_is_new(self):
        rows = contents_after(V, T)
        found = format_rows(rows)
        self.assertIs(found.__class__, list)
        found.clear()
        self.assertEqual(format_rows(rows), ["7/3 2/3", "2/3 4/3"])

    def test_values_that_are_no_rows(self):
        one = Ratio(1)
        for value in NO_LISTS + [[], [[]], [[], []], [[one], []], [[one], [one, one]], [[one]] * 9, [[one] * 9], [one],
                                 [[1]], [[one, 1]], [[one], None], [(one,)], ([one],), [[one], (one,)], [[[one]]],
                                 ListBelow([[one]]), [ListBelow([one])], [["1"]], ["1"], [[None]], [[True]],
                                 [[Anything()]],
                                 nested(20), nested(5000)]:
            check_error(self, InvalidRowsError, format_rows, value)

    def test_the_argument_by_name(self):
        self.assertEqual(format_rows(rows=[[Ratio(1, 2)]]), ["1/2"])


class Transfers(unittest.TestCase):
    def test_of_the_document(self):
        self.assertEqual(stays(self, format_transfers, [(0, 1, 12)]), "0>1:12")
        self.assertEqual(stays(self, parse_transfers, "0>1:1 1>0:2"), [(0, 1, 1), (1, 0, 2)])

    def test_small_ones(self):
        for transfers, text in [([], ""), ([(0, 1, 1)], "0>1:1"), (T, "0>1:1 1>0:1"),
                                ([(7, 6, MILLION)], "7>6:1000000"), ([(3, 0, 10), (0, 3, 100)], "3>0:10 0>3:100"),
                                ([(0, 1, 1)] * 24, " ".join(["0>1:1"] * 24))]:
            self.assertEqual(stays(self, format_transfers, transfers), text)
            self.assertEqual(stays(self, parse_transfers, text), transfers)

    def test_there_and_back(self):
        for _, transfers in ALL:
            text = format_transfers(transfers)
            self.assertEqual(text.split(), [f"{giver}>{taker}:{amount}" for giver, taker, amount in transfers])
            self.assertEqual(parse_transfers(text), transfers)
        for transfers in FAR_TRANSFERS:
            self.assertEqual(parse_transfers(format_transfers(transfers)), transfers)

    def test_up_to_24_words(self):
        for many in range(1, 30):
            text = " ".join(["7>0:1000000"] * many)
            if many <= 24:
                self.assertEqual(parse_transfers(text), [(7, 0, MILLION)] * many)
            else:
                check_error(self, InvalidFormatError, parse_transfers, text)

    def test_all_vessels(self):
        for giver in range(10):
            for taker in range(10):
                text = f"{giver}>{taker}:3"
                if giver != taker and max(giver, taker) < 8:
                    self.assertEqual(parse_transfers(text), [(giver, taker, 3)])
                else:
                    check_error(self, InvalidFormatError, parse_transfers, text)
                    check_error(self, InvalidFormatError, parse_transfers, "0>1:1 " + text)

    def test_results(self):
        self.assertIs(format_transfers([]).__class__, str)
        found, again = parse_transfers("0>1:1 1>0:2"), parse_transfers("0>1:1 1>0:2")
        self.assertEqual([found.__class__] + [item.__class__ for item in found], [list, tuple, tuple])
        self.assertTrue(all(number.__class__ is int for item in found for number in item))
        found.clear()
        self.assertEqual(len(again), 2)
        found = parse_transfers("")
        found.append(1)
        self.assertEqual(parse_transfers(""), [])

    def test_values_that_are_no_transfers(self):
        for value in WRONG_TRANSFERS:
            check_error(self, InvalidTransfersError, format_transfers, value)

    def test_strings_that_are_no_transfers(self):
        for text in NO_TRANSFER_STRINGS:
            check_error(self, InvalidFormatError, parse_transfers, text)

    def test_each_other_sign(self):
        text = "0>1:12 7>6:3"
        for sign in map(chr, range(256)):
            for at in range(len(text) + 1):
                for other in (text[:at] + sign + text[at:], text[:at] + sign + text[at + 1:]):
                    if sign not in "0123456789" and other != text:
                        with self.assertRaises(InvalidFormatError):
                            parse_transfers(other)

    def test_values_that_are_no_strings(self):
        for value in NO_STRINGS + [Ratio(7, 3), T]:
            check_error(self, InvalidFormatError, parse_transfers, value)

    def test_the_empty_string_is_no_ratio(self):
        self.assertEqual(parse_transfers(""), [])
        check_error(self, InvalidFormatError, parse_ratio, "")

    def test_arguments_by_name(self):
        self.assertEqual([format_transfers(transfers=T), parse_transfers(text="0>1:1")], ["0>1:1 1>0:1", [(0, 1, 1)]])


class Tables(unittest.TestCase):
    def test_of_the_document(self):
        self.assertEqual(stays(self, table_of, [3, 2], T), [" 0  0  1       1       2       3",
                                                            " 1  1  0       1       2       3"])

    def test_long_numbers(self):
        found = table_of(*GREATEST)
        self.assertEqual(found[0], " 0  0  7  999999       1 1999999")
        self.assertEqual(found[6], " 6  6  7  999999       1 7999993")
        self.assertEqual(found[23], "23  7  0 1000000  999993 1000001")

    def test_ten_and_more(self):
        found = table_of([30, 2], [(0, 1, 1)] * 12)
        self.assertEqual(found[9:11], [" 9  0  1       1      20      12", "10  0  1       1      19      13"])

    def test_many(self):
        for volumes, transfers in ALL + LONGEST:
            found = stays(self, table_of, volumes, transfers)
            self.assertEqual((found.__class__, len(found)), (list, len(transfers)))
            for index, (giver, taker, amount) in enumerate(transfers):
                now = volumes_behind(volumes, transfers[:index + 1])
                parts = [(index, 2), (giver, 3), (taker, 3), (amount, 8), (now[giver], 8), (now[taker], 8)]
                self.assertEqual(found[index], "".join(str(number).rjust(width) for number, width in parts))
                self.assertEqual(len(found[index]), 32)

    def test_no_transfers(self):
        for volumes in ([1], V, [MILLION] * 8):
            self.assertEqual(table_of(volumes, []), [])

    def test_the_list_is_new(self):
        found, again = table_of(V, T), table_of(V, T)
        found.clear()
        self.assertEqual(table_of(V, T), again)

    def test_faults(self):
        check_faults(self, table_of)

    def test_arguments_by_name(self):
        self.assertEqual(table_of(transfers=T, volumes=V), table_of(V, T))


if __name__ == "__main__":
    unittest.main()
