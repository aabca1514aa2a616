"""Weights: promise [10], and [2] and [3] as far as they speak of weights."""

import itertools
import unittest

from yarnback.errors import Short, Unread
from yarnback.weights import Weight, read_weight

THIRTY_FIGURES = 987654321098765432109876543210


class MadeTest(unittest.TestCase):
    def test_parts_come_together_in_drams(self):
        for pounds, ounces, drams in itertools.product((0, 2), (0, 3), (0, 4)):
            with self.subTest(parts=(pounds, ounces, drams)):
                weight = Weight(pounds, ounces, drams)
                self.assertEqual(weight.drams, pounds * 256 + ounces * 16 + drams)

    def test_ounces_and_drams_may_be_sixteen_and_more(self):
        self.assertEqual(Weight(0, 16, 0).drams, 256)
        self.assertEqual(Weight(0, 0, 16).drams, 16)
        self.assertEqual(Weight(1, 35, 40).drams, 256 + 560 + 40)

    def test_parts_by_names_and_left_out(self):
        self.assertEqual(Weight().drams, 0)
        self.assertEqual(Weight(2).drams, 512)
        self.assertEqual(Weight(ounces=3).drams, 48)
        self.assertEqual(Weight(drams=4).drams, 4)
        self.assertEqual(Weight(2, drams=4).drams, 516)
        self.assertEqual(Weight(drams=4, ounces=3, pounds=2).drams, 564)

    def test_great_numbers(self):
        weight = Weight(THIRTY_FIGURES, THIRTY_FIGURES, THIRTY_FIGURES)
        self.assertEqual(weight.drams, THIRTY_FIGURES * 273)

    def test_drams_are_a_plain_whole_number(self):
        for weight in (Weight(), Weight(1, 2, 3), Weight(2).plus(Weight(1)), read_weight("0 dr")):
            self.assertIs(type(weight.drams), int)


class WrittenTest(unittest.TestCase):
    def test_parts_that_are_0_are_left_out(self):
        told = {
            (2, 3, 4): "2 lb 3 oz 4 dr",
            (2, 3, 0): "2 lb 3 oz",
            (2, 0, 4): "2 lb 4 dr",
            (2, 0, 0): "2 lb",
            (0, 3, 4): "3 oz 4 dr",
            (0, 3, 0): "3 oz",
            (0, 0, 4): "4 dr",
            (0, 0, 0): "0 dr",
        }
        for parts, text in told.items():
            with self.subTest(text=text):
                self.assertEqual(str(Weight(*parts)), text)

    def test_ounces_and_drams_are_below_sixteen(self):
        self.assertEqual(str(Weight(drams=15)), "15 dr")
        self.assertEqual(str(Weight(drams=16)), "1 oz")
        self.assertEqual(str(Weight(drams=255)), "15 oz 15 dr")
        self.assertEqual(str(Weight(drams=256)), "1 lb")
        self.assertEqual(str(Weight(0, 35, 40)), "2 lb 5 oz 8 dr")

    def test_great_numbers(self):
        text = f"{THIRTY_FIGURES} lb 15 oz 15 dr"
        self.assertEqual(str(Weight(THIRTY_FIGURES, 15, 15)), text)

    def test_repr(self):
        self.assertEqual(repr(Weight(drams=37)), "Weight(drams=37)")
        self.assertEqual(repr(Weight()), "Weight(drams=0)")
        self.assertEqual(repr(Weight(1, 2, 3)), "Weight(drams=291)")
        self.assertEqual(repr([Weight(drams=THIRTY_FIGURES)]), f"[Weight(drams={THIRTY_FIGURES})]")


class EqualTest(unittest.TestCase):
    def test_equal_to_the_same_drams(self):
        self.assertTrue(Weight(1, 2, 3) == Weight(drams=291))
        self.assertFalse(Weight(1, 2, 3) != Weight(drams=291))
        self.assertTrue(Weight(drams=THIRTY_FIGURES) == Weight(drams=THIRTY_FIGURES))

    def test_not_equal_to_other_drams(self):
        self.assertFalse(Weight(drams=291) == Weight(drams=290))
        self.assertTrue(Weight(drams=291) != Weight(drams=290))

    def test_equal_to_nothing_of_another_kind(self):
        class Like:
            drams = 1

        for other in (1, True, 1.0, "1 dr", b"1 dr", None, [1], (1,), {"drams": 1}, Like(), Weight):
            with self.subTest(other=other):
                self.assertFalse(Weight(drams=1) == other)
                self.assertFalse(other == Weight(drams=1))
                self.assertTrue(Weight(drams=1) != other)
        for other in (0, False, "", None, []):
            with self.subTest(other=other):
                self.assertFalse(Weight() == other)

    def test_in_lists(self):
        row = [1, Weight(drams=1), "1 dr", Weight(0, 1), Weight(drams=16), None]
        self.assertTrue(Weight(drams=1) in row)
        self.assertFalse(Weight(drams=2) in row)
        self.assertEqual(row.count(Weight(drams=16)), 2)
        self.assertEqual(row.count(1), 1)
        self.assertEqual(row.index(Weight(drams=16)), 3)


class ReckonedTest(unittest.TestCase):
    def test_plus(self):
        self.assertEqual(Weight(1, 15, 15).plus(Weight(drams=1)), Weight(2))
        self.assertEqual(Weight().plus(Weight()), Weight())
        self.assertEqual(Weight(drams=3).plus(other=Weight(drams=4)).drams, 7)
        great = Weight(drams=THIRTY_FIGURES)
        self.assertEqual(great.plus(great).drams, 2 * THIRTY_FIGURES)

    def test_times(self):
        self.assertEqual(Weight(drams=9).times(), Weight(drams=18))
        self.assertEqual(Weight(drams=9).times(3), Weight(drams=27))
        self.assertEqual(Weight(drams=9).times(many=1), Weight(drams=9))
        self.assertEqual(Weight(drams=9).times(0), Weight())
        self.assertEqual(Weight().times(7), Weight())
        self.assertEqual(Weight(drams=999999999999999).times(999999999999999).drams, 999999999999999 ** 2)

    def test_less(self):
        self.assertEqual(Weight(2).less(Weight(drams=1)), Weight(1, 15, 15))
        self.assertEqual(Weight(2).less(Weight(2)), Weight())
        self.assertEqual(Weight(2).less(other=Weight()), Weight(2))
        great = Weight(drams=THIRTY_FIGURES)
        self.assertEqual(great.less(Weight(drams=THIRTY_FIGURES - 1)), Weight(drams=1))

    def test_less_of_a_greater_one_is_short(self):
        for have, want in ((0, 1), (15, 16), (3, 300), (THIRTY_FIGURES - 1, THIRTY_FIGURES)):
            with self.subTest(have=have, want=want):
                one, other = Weight(drams=have), Weight(drams=want)
                with self.assertRaises(Short) as caught:
                    one.less(other)
                self.assertIsInstance(caught.exception.by, Weight)
                self.assertEqual(caught.exception.by, Weight(drams=want - have))
                self.assertEqual((one.drams, other.drams), (have, want))

    def test_weights_stay_as_they_were(self):
        one, other = Weight(1, 2, 3), Weight(drams=4)
        told_anew = [one.plus(other), one.plus(Weight()), Weight().plus(one), one.less(other), one.less(Weight())]
        told_anew += [one.times(), one.times(1)]
        for told in told_anew:
            self.assertIsInstance(told, Weight)
            told.drams = 0
        self.assertEqual((one.drams, other.drams), (291, 4))

    def test_short_by_is_a_weight_of_its_own(self):
        one, other = Weight(), Weight(drams=5)
        with self.assertRaises(Short) as caught:
            one.less(other)
        caught.exception.by.drams = 99
        self.assertEqual((one.drams, other.drams), (0, 5))


class ReadTest(unittest.TestCase):
    def test_what_is_written_is_read(self):
        for drams in [*range(600), 999999, 256 * 999999999999 + 255]:
            weight = Weight(drams=drams)
            read = read_weight(str(weight))
            self.assertIsInstance(read, Weight)
            self.assertEqual(read, weight)

    def test_ordinary_texts(self):
        self.assertEqual(read_weight("2 lb 3 oz 4 dr"), Weight(2, 3, 4))
        self.assertEqual(read_weight("2 lb 4 dr"), Weight(2, 0, 4))
        self.assertEqual(read_weight("15 oz"), Weight(0, 15))
        self.assertEqual(read_weight("0 dr"), Weight())
        self.assertEqual(read_weight(text="10 lb"), Weight(10))

    def test_twelve_figures_are_read(self):
        self.assertEqual(read_weight("999999999999 lb 15 oz 15 dr"), Weight(999999999999, 15, 15))
        self.assertEqual(read_weight("100000000000 lb"), Weight(100000000000))

    def test_read_anew_each_time(self):
        read_weight("3 dr").drams = 5
        self.assertEqual(read_weight("3 dr"), Weight(drams=3))


class UnreadTest(unittest.TestCase):
    def check_unread(self, texts):
        for text in texts:
            with self.subTest(text=text[:40]):
                with self.assertRaises(Unread) as caught:
                    read_weight(text)
                self.assertEqual(caught.exception.text, text)

    def test_noughts(self):
        self.check_unread(["02 lb", "2 lb 03 oz", "2 lb 04 dr", "00 dr", "000000000001 lb"])
        self.check_unread(["0 lb", "0 oz", "2 lb 0 oz", "2 lb 0 dr", "0 lb 3 oz", "0 lb 0 oz 0 dr"])
        self.check_unread(["0 oz 4 dr", "0 dr 0 dr"])

    def test_ounces_and_drams_of_sixteen_and_more(self):
        self.check_unread(["16 oz", "17 oz", "16 dr", "20 dr", "256 dr", "2 lb 16 oz", "1 oz 16 dr", "37 dr"])

    def test_other_orders_and_parts_twice(self):
        self.check_unread(["3 oz 2 lb", "4 dr 3 oz", "4 dr 2 lb", "2 lb 4 dr 3 oz", "3 oz 2 lb 4 dr"])
        self.check_unread(["2 lb 2 lb", "1 oz 2 oz", "1 dr 1 dr", "2 lb 1 oz 2 lb", "1 lb 0 dr"])

    def test_other_blanks(self):
        self.check_unread([" 2 lb", "2 lb ", "2  lb", "2 lb  3 oz", "2lb", "2 lb3 oz", "2\nlb", "2 lb\n3 oz"])
        self.check_unread(["2 lb\n", "\n2 lb", "0 dr\n", "2 lb 3 oz 4 dr\n", "2\tlb"])

    def test_other_signs_and_letters(self):
        self.check_unread(["+2 lb", "-2 lb", "2.0 lb", "2,000 lb", "2_0 lb", "1e2 lb", "0x2 lb", "two lb", "?"])
        self.check_unread(["2 LB", "2 Lb", "2 lbs", "2 l", "2 pounds", "2 lb, 3 oz", "2 lb.", "2 oz;", "2 ozdr"])
        self.check_unread(["-1 lb", "-0 dr", "1/2 lb", "2 lb and 3 oz", "(2 lb)", "Weight(drams=37)", "2 lb - 1 oz"])
        self.check_unread(["\u00b2 lb", "\u0662 lb", "2\u00a0lb"])

    def test_parts_without_a_number_or_a_unit(self):
        self.check_unread(["", " ", "  ", "\n", "2", "0", "lb", "dr", "lb 2", "2 lb 3", "2 lb oz", "2 3 lb", "0 dr 0"])

    def test_more_than_twelve_figures(self):
        self.check_unread(["1000000000000 lb", "9999999999999 lb 1 oz", "1111111111111 dr", "0000000000001 dr"])
        self.check_unread(["2 lb 1000000000000", "1000000000000 oz"])

    def test_very_many_figures(self):
        many = "9" * 5000
        self.check_unread([many, f"{many} lb", f"2 lb {many} oz", f"{many} dr", f"{many} dr lb", f"2 lb {many}"])
        self.check_unread(["9" * 100000 + " lb", "0" * 100000 + " dr", " ".join(["1 lb"] * 10000)])


if __name__ == "__main__":
    unittest.main()
