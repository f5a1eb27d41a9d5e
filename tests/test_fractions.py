"""Fractions [2]: exact, in lowest terms, the bottom above 0."""

import itertools
import math
import random
import unittest

from shownranks.fractions import fraction, is_less, product_of, sum_of, sum_of_lowest, times_lowest
from helpers import Checks

SIXTY = 10 ** 59 + 7
BIG = [SIXTY, -SIXTY, 10 ** 60 - 1, 6 ** 76, 2 ** 199, 3 ** 125, -(7 ** 70)]
SMALL = list(range(-12, 13))


class FractionCase(Checks):
    def lowest(self, told):
        self.assertIs(type(told), tuple)
        self.assertEqual(len(told), 2)
        self.assertEqual([type(number) for number in told], [int, int])
        self.assertGreater(told[1], 0)
        self.assertEqual(math.gcd(told[0], told[1]), 1)


class Fractions(FractionCase):
    def test_written_out(self):
        for top, bottom, wanted in [
            (1, 2, (1, 2)), (2, 4, (1, 2)), (6, 4, (3, 2)), (-6, 4, (-3, 2)), (6, -4, (-3, 2)), (-6, -4, (3, 2)),
            (0, 1, (0, 1)), (0, 7, (0, 1)), (0, -7, (0, 1)), (5, 1, (5, 1)), (5, -1, (-5, 1)), (12, 3, (4, 1)),
            (3, 12, (1, 4)), (-1, -1, (1, 1)), (1, -1, (-1, 1)), (100, 75, (4, 3)), (17, 19, (17, 19)),
            (10 ** 59, 10 ** 59, (1, 1)), (10 ** 59, -(10 ** 58), (-10, 1)), (2 * SIXTY, 4 * SIXTY, (1, 2)),
        ]:
            self.same(fraction(top, bottom), wanted)

    def test_lowest_terms_and_the_same_worth_for_all_signs(self):
        for top, bottom in itertools.product(SMALL + BIG, SMALL + BIG):
            if bottom != 0:
                told = fraction(top, bottom)
                self.lowest(told)
                self.assertEqual(told[0] * bottom, top * told[1])

    def test_asked_again_the_same_is_told(self):
        self.assertEqual([fraction(84, -36) for _ in range(3)], [(-7, 3)] * 3)


class SumsAndProducts(FractionCase):
    def some(self):
        return [fraction(top, bottom) for top, bottom in itertools.product(range(-6, 7), range(1, 7))] + [
            fraction(SIXTY, 6 ** 76), fraction(-(7 ** 70), 2 ** 199), fraction(10 ** 60 - 1, 3 ** 125),
        ]

    def test_sums_written_out(self):
        for one, other, wanted in [
            ((1, 2), (1, 3), (5, 6)), ((1, 2), (1, 2), (1, 1)), ((1, 6), (1, 3), (1, 2)), ((-1, 2), (1, 3), (-1, 6)),
            ((0, 1), (3, 4), (3, 4)), ((3, 4), (0, 1), (3, 4)), ((2, 1), (3, 1), (5, 1)), ((-1, 4), (-1, 4), (-1, 2)),
        ]:
            self.same(sum_of(one, other), wanted)

    def test_sums_of_what_is_in_lowest_terms(self):
        for one, other in itertools.product(self.some(), self.some()):
            self.same(sum_of_lowest(one, other), sum_of(one, other))

    def test_times_of_what_is_in_lowest_terms(self):
        for one, times in itertools.product(self.some(), [0, 1, 2, 3, 6, 36, 37, 999, SIXTY]):
            self.same(times_lowest(times, one), product_of((times, 1), one))

    def test_products_written_out(self):
        for one, other, wanted in [
            ((1, 2), (1, 3), (1, 6)), ((2, 3), (3, 2), (1, 1)), ((-2, 3), (3, 4), (-1, 2)), ((-1, 2), (-2, 1), (1, 1)),
            ((0, 1), (3, 4), (0, 1)), ((-3, 4), (0, 1), (0, 1)), ((5, 1), (7, 1), (35, 1)),
        ]:
            self.same(product_of(one, other), wanted)

    def test_sums_and_products_are_exact_and_in_lowest_terms(self):
        for one, other in itertools.product(self.some(), repeat=2):
            added, multiplied = sum_of(one, other), product_of(one, other)
            self.lowest(added)
            self.lowest(multiplied)
            self.assertEqual(added[0] * one[1] * other[1], (one[0] * other[1] + other[0] * one[1]) * added[1])
            self.assertEqual(multiplied[0] * one[1] * other[1], one[0] * other[0] * multiplied[1])

    def test_a_sum_of_many_is_the_same_in_any_order(self):
        chance = random.Random(1)
        many = self.some()
        wanted = self.added(many)
        for _ in range(20):
            chance.shuffle(many)
            self.assertEqual(self.added(many), wanted)
        self.assertEqual(self.added([fraction(1, n) for n in (2, 3, 6)]), (1, 1))

    def added(self, many):
        whole = (0, 1)
        for one in many:
            whole = sum_of(whole, one)
        return whole

    def test_a_fraction_and_the_same_with_its_sign_turned_come_to_nothing(self):
        for top, bottom in self.some():
            self.same(sum_of((top, bottom), (-top, bottom)), (0, 1))
            self.same(sum_of((-top, bottom), (top, bottom)), (0, 1))


class Less(FractionCase):
    def test_written_out(self):
        for one, other, wanted in [
            ((1, 3), (1, 2), True), ((1, 2), (1, 3), False), ((1, 2), (1, 2), False), ((0, 1), (0, 1), False),
            ((-1, 2), (1, 2), True), ((1, 2), (-1, 2), False), ((-1, 2), (-1, 3), True), ((-1, 3), (-1, 2), False),
            ((-1, 3), (-1, 3), False), ((-1, 9), (0, 1), True), ((0, 1), (-1, 9), False), ((2, 3), (3, 4), True),
            ((9, 1), (10, 1), True), ((7, 2), (3, 1), False),
        ]:
            self.truth(is_less(one, other), wanted)

    def test_ones_that_are_hardly_apart(self):
        one, other = fraction(SIXTY, SIXTY + 1), fraction(SIXTY + 1, SIXTY + 2)
        self.truth(is_less(one, other), True)
        self.truth(is_less(other, one), False)
        self.truth(is_less(one, one), False)
        self.truth(is_less((-one[0], one[1]), (-other[0], other[1])), False)
        self.truth(is_less((-other[0], other[1]), (-one[0], one[1])), True)

    def test_of_whole_numbers_as_they_are(self):
        for one, other in itertools.product(SMALL, SMALL):
            self.truth(is_less((one, 1), (other, 1)), one < other)


if __name__ == "__main__":
    unittest.main()
