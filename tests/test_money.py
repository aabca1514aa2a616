"""Money: promise [25], and [2] and [3] as far as they speak of money."""

import itertools
import unittest

from yarnback.errors import Unread
from yarnback.money import Money, read_money
from yarnback.weights import Weight

THIRTY_FIGURES = 987654321098765432109876543210


class MadeTest(unittest.TestCase):
    def test_parts_come_together_in_pence(self):
        for pence, shillings, pounds in itertools.product((-5, 0, 1, 30), (-25, 0, 2, 41), (-1, 0, 3)):
            with self.subTest(parts=(pence, shillings, pounds)):
                money = Money(pence, shillings, pounds)
                self.assertEqual(money.pence, pence + 12 * shillings + 240 * pounds)

    def test_parts_by_names_and_left_out(self):
        self.assertEqual(Money().pence, 0)
        self.assertEqual(Money(2).pence, 2)
        self.assertEqual(Money(shillings=3).pence, 36)
        self.assertEqual(Money(pounds=4).pence, 960)
        self.assertEqual(Money(pounds=1, pence=-3).pence, 237)
        self.assertEqual(Money(pounds=1, shillings=2, pence=3).pence, 267)

    def test_great_numbers(self):
        self.assertEqual(Money(THIRTY_FIGURES, THIRTY_FIGURES, -THIRTY_FIGURES).pence, -227 * THIRTY_FIGURES)

    def test_pence_are_a_plain_whole_number(self):
        for money in (Money(), Money(1, 2, 3), Money(2).less(Money(5)), read_money("-3d"), Money(7).times(-1)):
            self.assertIs(type(money.pence), int)


class WrittenTest(unittest.TestCase):
    def test_parts_that_are_0_are_left_out(self):
        told = {
            (1, 2, 3): "3l 2s 1d",
            (0, 2, 3): "3l 2s",
            (1, 0, 3): "3l 1d",
            (0, 0, 3): "3l",
            (1, 2, 0): "2s 1d",
            (0, 2, 0): "2s",
            (1, 0, 0): "1d",
            (0, 0, 0): "0d",
        }
        for parts, text in told.items():
            with self.subTest(text=text):
                self.assertEqual(str(Money(*parts)), text)

    def test_below_0(self):
        told = {-1: "-1d", -12: "-1s", -13: "-1s 1d", -240: "-1l", -241: "-1l 1d", -239: "-19s 11d", -300: "-1l 5s"}
        for pence, text in told.items():
            self.assertEqual(str(Money(pence)), text)
        self.assertEqual(str(Money(-1, -2, -3)), "-3l 2s 1d")
        self.assertEqual(str(Money(0, 0, -1)), "-1l")
        self.assertEqual(str(Money(-241, 0, 1)), "-1d")

    def test_shillings_below_twenty_and_pence_below_twelve(self):
        told = {11: "11d", 12: "1s", 23: "1s 11d", 239: "19s 11d", 240: "1l", 479: "1l 19s 11d", 480: "2l"}
        for pence, text in told.items():
            self.assertEqual(str(Money(pence)), text)

    def test_great_numbers(self):
        self.assertEqual(str(Money(11, 19, THIRTY_FIGURES)), f"{THIRTY_FIGURES}l 19s 11d")
        self.assertEqual(str(Money(-11, -19, -THIRTY_FIGURES)), f"-{THIRTY_FIGURES}l 19s 11d")

    def test_repr(self):
        self.assertEqual(repr(Money(pence=-3)), "Money(pence=-3)")
        self.assertEqual(repr(Money()), "Money(pence=0)")
        self.assertEqual(repr([Money(1, 2, 3), Money(-THIRTY_FIGURES)]),
                         f"[Money(pence=745), Money(pence=-{THIRTY_FIGURES})]")


class EqualTest(unittest.TestCase):
    def test_equal_to_the_same_pence(self):
        self.assertTrue(Money(12) == Money(shillings=1))
        self.assertFalse(Money(12) != Money(shillings=1))
        self.assertTrue(Money(-240) == Money(pounds=-1))
        self.assertTrue(Money(THIRTY_FIGURES) == Money(THIRTY_FIGURES))

    def test_not_equal_to_other_pence(self):
        self.assertFalse(Money(12) == Money(11))
        self.assertFalse(Money(12) == Money(-12))
        self.assertTrue(Money(12) != Money(11))

    def test_equal_to_nothing_of_another_kind(self):
        class Like:
            pence = 1

        for other in (1, True, 1.0, "1d", b"1d", None, [1], (1,), {"pence": 1}, Like(), Money, Weight(drams=1)):
            with self.subTest(other=other):
                self.assertFalse(Money(1) == other)
                self.assertFalse(other == Money(1))
                self.assertTrue(Money(1) != other)
        for other in (0, False, "", None, [], Weight()):
            self.assertFalse(Money() == other)

    def test_in_lists(self):
        row = [1, Money(1), "1d", Money(0, 1), Money(12), None]
        self.assertTrue(Money(1) in row)
        self.assertFalse(Money(2) in row)
        self.assertEqual(row.count(Money(12)), 2)


class ReckonedTest(unittest.TestCase):
    def test_plus(self):
        self.assertEqual(Money(11).plus(Money(1)), Money(0, 1))
        self.assertEqual(Money(3).plus(Money(-5)), Money(-2))
        self.assertEqual(Money().plus(other=Money()), Money())
        self.assertEqual(Money(THIRTY_FIGURES).plus(Money(THIRTY_FIGURES)).pence, 2 * THIRTY_FIGURES)

    def test_less(self):
        self.assertEqual(Money(0, 1).less(Money(1)), Money(11))
        self.assertEqual(Money(3).less(Money(5)), Money(-2))
        self.assertEqual(Money(3).less(other=Money(-5)), Money(8))
        self.assertEqual(Money().less(Money(THIRTY_FIGURES)).pence, -THIRTY_FIGURES)

    def test_times(self):
        self.assertEqual(Money(9).times(), Money(18))
        self.assertEqual(Money(-9).times(), Money(-18))
        self.assertEqual(Money(9).times(3), Money(27))
        self.assertEqual(Money(9).times(many=-2), Money(-18))
        self.assertEqual(Money(-9).times(-1), Money(9))
        self.assertEqual(Money(9).times(0), Money())
        self.assertEqual(Money(THIRTY_FIGURES).times(THIRTY_FIGURES).pence, THIRTY_FIGURES ** 2)

    def test_money_stays_as_it_was(self):
        one, other = Money(1, 2, 3), Money(4)
        told_anew = [one.plus(other), one.plus(Money()), Money().plus(one), one.less(other), one.less(Money())]
        told_anew += [one.times(), one.times(1)]
        for told in told_anew:
            self.assertIsInstance(told, Money)
            told.pence = 0
        self.assertEqual((one.pence, other.pence), (745, 4))


class ReadTest(unittest.TestCase):
    def test_what_is_written_is_read(self):
        for pence in [*range(-1000, 1000), 240 * 999999999999 + 239, -240 * 999999999999 - 239]:
            money = Money(pence)
            read = read_money(str(money))
            self.assertIsInstance(read, Money)
            self.assertEqual(read, money)

    def test_ordinary_texts(self):
        told = {"3l 2s 1d": 745, "-3l 2s 1d": -745, "3l 1d": 721, "19s 11d": 239, "0d": 0, "-11d": -11, "10l": 2400}
        for text, pence in told.items():
            self.assertEqual(read_money(text).pence, pence)
        self.assertEqual(read_money(text="2s"), Money(24))

    def test_twelve_figures_are_read(self):
        self.assertEqual(read_money("999999999999l 19s 11d"), Money(11, 19, 999999999999))
        self.assertEqual(read_money("-100000000000l"), Money(pounds=-100000000000))

    def test_read_anew_each_time(self):
        read_money("3d").pence = 5
        self.assertEqual(read_money("3d"), Money(3))


class UnreadTest(unittest.TestCase):
    def check_unread(self, texts):
        for text in texts:
            with self.subTest(text=text[:40]):
                with self.assertRaises(Unread) as caught:
                    read_money(text)
                self.assertEqual(vars(caught.exception), {"text": text})

    def test_noughts(self):
        self.check_unread(["03l", "3l 02s", "3l 01d", "00d", "-03l", "000000000001l", "-0d", "-00d"])
        self.check_unread(["0l", "0s", "3l 0s", "3l 0d", "0l 2s", "0l 0s 0d", "0s 1d", "0d 0d", "-0l", "-0s 1d"])

    def test_shillings_of_twenty_and_pence_of_twelve(self):
        self.check_unread(["20s", "21s", "12d", "13d", "240d", "3l 20s", "1s 12d", "-20s", "-12d", "-1l 12d"])

    def test_other_orders_and_parts_twice(self):
        self.check_unread(["2s 3l", "1d 2s", "1d 3l", "3l 1d 2s", "2s 3l 1d", "3l 3l", "1s 2s", "1d 1d", "3l 1s 3l"])

    def test_signs_ahead(self):
        self.check_unread(["--3d", "+3d", "- 3d", "-3l -2s", "3l -2s", "-", "--", "3d-", "-+3d", "3l-2s", "-3l - 2s"])

    def test_other_blanks(self):
        self.check_unread([" 3l", "3l ", "3l  2s", "3 l", "3l2s", "3l\n2s", "3l\n", "\n3l", "0d\n", "-3l 2s 1d\n"])
        self.check_unread(["3l\t2s", " -3l", "3l 2s 1d ", "3l 2s 1d\n\n"])

    def test_other_signs_and_letters(self):
        self.check_unread(["3.0l", "3,000l", "3_0l", "1e2l", "0x2d", "threel", "?", "3L", "3S", "3D", "3p", "3ld", "3lb"])
        self.check_unread(["3l, 2s", "3l.", "3l;2s", "1/2d", "3l and 2s", "(3d)", "Money(pence=3)", "3dd", "3d3", "d3"])
        self.check_unread(["\u00b2l", "\u0662l", "3l\u00a02s", "\u22123d", "\uff13d"])

    def test_parts_without_a_number_or_a_unit(self):
        self.check_unread(["", " ", "  ", "\n", "3", "0", "l", "d", "s", "l 2s", "3l s", "3l 2", "3l d", "-l", "-d"])

    def test_more_than_twelve_figures(self):
        self.check_unread(["1000000000000l", "9999999999999l 1s", "-1000000000000l", "1111111111111d", "0000000000001d"])

    def test_very_many_figures(self):
        many = "9" * 5000
        self.check_unread([many, f"{many}l", f"-{many}l", f"3l {many}s", f"{many}d", " ".join(["1l"] * 10000)])


if __name__ == "__main__":
    unittest.main()
