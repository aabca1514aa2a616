"""Spans, weighings and oil: promises [11] and [12], and [2] as far as it speaks of spans."""

import itertools
import unittest

from yarnback.spans import Span, weighed, yarn_in

GREAT = 999999999999999
THIRTY_FIGURES = 987654321098765432109876543210


def ends(span):
    return None if span is None else (span.least, span.most)


class MadeTest(unittest.TestCase):
    def test_ends(self):
        self.assertEqual(ends(Span(3, 5)), (3, 5))
        self.assertEqual(ends(Span(0, 0)), (0, 0))
        self.assertEqual(ends(Span(most=5, least=3)), (3, 5))
        self.assertEqual(ends(Span(GREAT, THIRTY_FIGURES)), (GREAT, THIRTY_FIGURES))

    def test_told_by_the_least_alone(self):
        self.assertEqual(ends(Span(3)), (3, 3))
        self.assertEqual(ends(Span(0)), (0, 0))
        self.assertEqual(ends(Span(least=3, most=None)), (3, 3))

    def test_ends_are_plain_whole_numbers(self):
        for span in (Span(1), Span(0, 1), Span(1).widened(), weighed(0, 1), yarn_in(Span(1, 3), Span(0, 100))):
            self.assertIs(type(span.least), int)
            self.assertIs(type(span.most), int)


class LongTest(unittest.TestCase):
    def test_as_long_as_there_are_numbers_in_it(self):
        self.assertEqual(len(Span(3)), 1)
        self.assertEqual(len(Span(0)), 1)
        self.assertEqual(len(Span(3, 4)), 2)
        self.assertEqual(len(Span(0, 9)), 10)

    def test_long_ones_and_great_numbers(self):
        self.assertEqual(len(Span(1, 10 ** 18)), 10 ** 18)
        self.assertEqual(len(Span(THIRTY_FIGURES)), 1)
        self.assertEqual(len(Span(THIRTY_FIGURES, THIRTY_FIGURES + 10 ** 18 - 1)), 10 ** 18)


class WrittenTest(unittest.TestCase):
    def test_str(self):
        self.assertEqual(str(Span(3, 5)), "3 to 5")
        self.assertEqual(str(Span(0, 1)), "0 to 1")
        self.assertEqual(str(Span(3)), "3")
        self.assertEqual(str(Span(0, 0)), "0")
        self.assertEqual(str(Span(0, THIRTY_FIGURES)), f"0 to {THIRTY_FIGURES}")

    def test_repr(self):
        self.assertEqual(repr(Span(3, 5)), "Span(3, 5)")
        self.assertEqual(repr(Span(3)), "Span(3, 3)")
        self.assertEqual(repr(Span(0)), "Span(0, 0)")
        self.assertEqual(repr((Span(3), None)), "(Span(3, 3), None)")


class EqualTest(unittest.TestCase):
    def test_equal_if_both_numbers_are(self):
        self.assertTrue(Span(3, 5) == Span(3, 5))
        self.assertFalse(Span(3, 5) != Span(3, 5))
        self.assertTrue(Span(3) == Span(3, 3))
        self.assertTrue(Span(GREAT, THIRTY_FIGURES) == Span(GREAT, THIRTY_FIGURES))

    def test_not_equal_if_one_number_is_other(self):
        for least, most in ((3, 6), (3, 4), (2, 5), (4, 5), (3, 3), (5, 5), (2, 6)):
            with self.subTest(least=least, most=most):
                self.assertFalse(Span(3, 5) == Span(least, most))
                self.assertTrue(Span(3, 5) != Span(least, most))

    def test_equal_to_nothing_of_another_kind(self):
        class Like:
            least = 1
            most = 1

        for other in (1, True, 1.0, "1", "1 to 1", None, [1], (1, 1), range(1, 2), {1}, Like(), Span):
            with self.subTest(other=other):
                self.assertFalse(Span(1) == other)
                self.assertFalse(other == Span(1))
                self.assertTrue(Span(1) != other)

    def test_in_lists(self):
        row = [(3, 5), Span(3), Span(3, 5), 3, Span(3, 3), None]
        self.assertTrue(Span(3, 5) in row)
        self.assertFalse(Span(3, 6) in row)
        self.assertEqual(row.count(Span(3)), 2)
        self.assertEqual(row.count(3), 1)


class HoldsTest(unittest.TestCase):
    def test_at_the_ends_and_beside(self):
        held = [number for number in range(9) if Span(3, 5).holds(number)]
        self.assertEqual(held, [3, 4, 5])
        self.assertEqual([number for number in range(9) if Span(0).holds(number)], [0])
        self.assertTrue(Span(3, 5).holds(number=4))

    def test_true_or_false_itself(self):
        for number in range(8):
            self.assertIs(Span(3, 5).holds(number), number in (3, 4, 5))

    def test_great_numbers(self):
        span = Span(THIRTY_FIGURES - GREAT, THIRTY_FIGURES)
        for number in (THIRTY_FIGURES - GREAT, THIRTY_FIGURES - 1, THIRTY_FIGURES):
            self.assertIs(span.holds(number), True)
        for number in (0, THIRTY_FIGURES - GREAT - 1, THIRTY_FIGURES + 1):
            self.assertIs(span.holds(number), False)


class SumTest(unittest.TestCase):
    def test_plus(self):
        self.assertEqual(ends(Span(3, 5).plus(Span(10, 20))), (13, 25))
        self.assertEqual(ends(Span(3, 5).plus(Span(0))), (3, 5))
        self.assertEqual(ends(Span(3).plus(other=Span(4))), (7, 7))
        self.assertEqual(ends(Span(0, THIRTY_FIGURES).plus(Span(1, GREAT))), (1, THIRTY_FIGURES + GREAT))


class MeetTest(unittest.TestCase):
    def test_as_the_numbers_in_both(self):
        spans = [Span(least, most) for least in range(6) for most in range(least, 6)]
        for one, other in itertools.product(spans, spans):
            both = [number for number in range(7) if one.holds(number) and other.holds(number)]
            wanted = (both[0], both[-1]) if both else None
            self.assertEqual(ends(one.meet(other)), wanted, (one, other))

    def test_that_touch_or_lie_apart(self):
        self.assertEqual(Span(3, 5).meet(Span(5, 8)), Span(5))
        self.assertEqual(Span(5, 8).meet(Span(3, 5)), Span(5))
        self.assertIsNone(Span(3, 5).meet(Span(6, 8)))
        self.assertIsNone(Span(6, 8).meet(other=Span(3, 5)))
        self.assertIsNone(Span(3).meet(Span(4)))

    def test_great_numbers(self):
        self.assertEqual(Span(0, THIRTY_FIGURES).meet(Span(GREAT, 2 * THIRTY_FIGURES)), Span(GREAT, THIRTY_FIGURES))
        self.assertIsNone(Span(0, THIRTY_FIGURES).meet(Span(THIRTY_FIGURES + 1)))


class WidenedTest(unittest.TestCase):
    def test_with_and_without_a_number(self):
        self.assertEqual(ends(Span(3, 5).widened()), (2, 6))
        self.assertEqual(ends(Span(3, 5).widened(2)), (1, 7))
        self.assertEqual(ends(Span(3, 5).widened(by=3)), (0, 8))
        self.assertEqual(ends(Span(3, 5).widened(0)), (3, 5))

    def test_none_below_0(self):
        self.assertEqual(ends(Span(3, 5).widened(4)), (0, 9))
        self.assertEqual(ends(Span(0).widened()), (0, 1))
        self.assertEqual(ends(Span(0, 5).widened(GREAT)), (0, GREAT + 5))

    def test_great_numbers(self):
        self.assertEqual(ends(Span(THIRTY_FIGURES).widened(GREAT)), (THIRTY_FIGURES - GREAT, THIRTY_FIGURES + GREAT))


class UnchangedTest(unittest.TestCase):
    def test_spans_stay_as_they_were(self):
        one, other = Span(3, 5), Span(4, 9)
        told = [one.plus(other), one.meet(other), one.meet(one), one.widened(), one.widened(0), one.plus(Span(0))]
        told += [yarn_in(one), yarn_in(one, Span(0)), yarn_in(other, oil=one)]
        for span in told:
            self.assertIsInstance(span, Span)
            span.least, span.most = 0, 1
        self.assertEqual((ends(one), ends(other)), ((3, 5), (4, 9)))

    def test_told_anew_each_time(self):
        first = weighed(7, 2)
        first.least = 0
        self.assertEqual(weighed(7, 2), Span(5, 9))


class WeighedTest(unittest.TestCase):
    def test_without_slackness(self):
        self.assertEqual(weighed(7), Span(7))
        self.assertEqual(weighed(7, 0), Span(7))
        self.assertEqual(weighed(0), Span(0))

    def test_with_slackness(self):
        self.assertEqual(weighed(7, 2), Span(5, 9))
        self.assertEqual(weighed(slack=7, drams=7), Span(0, 14))

    def test_slackness_greater_than_the_drams(self):
        self.assertEqual(weighed(7, 8), Span(0, 15))
        self.assertEqual(weighed(0, 3), Span(0, 3))

    def test_great_numbers(self):
        self.assertEqual(weighed(GREAT, GREAT), Span(0, 2 * GREAT))
        self.assertEqual(weighed(GREAT, 1), Span(GREAT - 1, GREAT + 1))


def can_be(yarn, cloth, oil):
    """Whether so much yarn is in cloth of some weight of the span, as [12] tells it."""
    lightest = yarn + yarn * oil.least // 100
    heaviest = yarn + yarn * oil.most // 100
    return lightest <= cloth.most and cloth.least <= heaviest


class YarnInTest(unittest.TestCase):
    def test_no_oil(self):
        for cloth in (Span(0), Span(5), Span(3, 8), Span(0, GREAT), Span(GREAT, THIRTY_FIGURES)):
            with self.subTest(cloth=cloth):
                self.assertEqual(yarn_in(cloth), cloth)
                self.assertEqual(yarn_in(cloth, None), cloth)
                self.assertEqual(yarn_in(cloth, Span(0)), cloth)

    def test_worked_by_hand(self):
        self.assertEqual(yarn_in(Span(110), Span(10)), Span(100))
        self.assertEqual(yarn_in(Span(150), Span(0, 50)), Span(100, 150))
        self.assertEqual(yarn_in(Span(200), Span(100)), Span(100))
        self.assertEqual(yarn_in(Span(200), Span(0, 100)), Span(100, 200))
        self.assertEqual(yarn_in(cloth=Span(100, 120), oil=Span(5, 10)), Span(91, 115))

    def test_all_small_cloth_as_gone_through_one_by_one(self):
        oils = [Span(least, most) for least in (0, 1, 3, 33, 50, 99, 100) for most in (0, 1, 4, 34, 99, 100)
                if least <= most]
        cloths = [Span(least, most) for least in range(16) for most in range(least, 16)]
        for cloth, oil in itertools.product(cloths, oils):
            found = [yarn for yarn in range(cloth.most + 1) if can_be(yarn, cloth, oil)]
            wanted = (found[0], found[-1]) if found else None
            self.assertEqual(ends(yarn_in(cloth, oil)), wanted, (cloth, oil))

    def test_oil_of_each_one_number(self):
        for parts in range(101):
            for weight in (0, 1, 2, 3, 99, 100, 101, 201):
                cloth, oil = Span(weight), Span(parts)
                found = [yarn for yarn in range(weight + 1) if can_be(yarn, cloth, oil)]
                wanted = (found[0], found[-1]) if found else None
                self.assertEqual(ends(yarn_in(cloth, oil)), wanted, (cloth, oil))

    def test_little_cloth_with_no_yarn_possible(self):
        self.assertIsNone(yarn_in(Span(1), Span(100)))
        self.assertIsNone(yarn_in(Span(3), Span(100)))
        self.assertEqual(yarn_in(Span(2), Span(100)), Span(1))
        self.assertEqual(yarn_in(Span(1, 2), Span(100)), Span(1))
        self.assertIsNone(yarn_in(Span(2), Span(50)))
        self.assertEqual(yarn_in(Span(1), Span(99)), Span(1))
        self.assertIsNone(yarn_in(Span(2 * GREAT + 1), Span(100)))

    def test_nothing_weighed(self):
        for oil in (None, Span(0), Span(5, 10), Span(100), Span(0, 100)):
            self.assertEqual(yarn_in(Span(0), oil), Span(0))

    def test_great_numbers(self):
        cloths = (Span(GREAT - 7, GREAT), Span(THIRTY_FIGURES, THIRTY_FIGURES + GREAT), Span(0, GREAT), Span(2 * GREAT))
        for cloth, oil in itertools.product(cloths, (Span(1), Span(3, 7), Span(0, 100), Span(99, 100), Span(100))):
            with self.subTest(cloth=cloth, oil=oil):
                self.check_ends(cloth, oil, yarn_in(cloth, oil))

    def check_ends(self, cloth, oil, span):
        self.assertTrue(can_be(span.least, cloth, oil))
        self.assertTrue(can_be(span.most, cloth, oil))
        self.assertFalse(can_be(span.most + 1, cloth, oil))
        if span.least > 0:
            self.assertFalse(can_be(span.least - 1, cloth, oil))

    def test_great_numbers_worked_by_hand(self):
        self.assertEqual(yarn_in(Span(110 * 10 ** 27), Span(10)), Span(10 ** 29))
        self.assertEqual(yarn_in(Span(2 * GREAT), Span(0, 100)), Span(GREAT, 2 * GREAT))


if __name__ == "__main__":
    unittest.main()
