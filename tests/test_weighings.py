"""Weighings [18]: what is one, what is refused, and the rank of a leaf."""

import fractions
import math
import random
import unittest

from shownranks.errors import NoWeighing
from shownranks.weighings import Weighing
from helpers import Checks

WEIGHTS, RISE, LONG = (3, 1, 2), (6, 5), (3, 4)
GREAT = 10 ** 60 - 1


def slow_rank(rise, long, n, t, length, many, total):
    """The formula of [18] by Python's own fractions, put down just as it stands there."""
    if t == 0:
        return (0, 1)
    rise, long = fractions.Fraction(*rise), fractions.Fraction(*long)
    rank = fractions.Fraction(many + 1, n + 1) * t * (rise + 1) / (t + rise * (1 - long + long * length * many / total))
    return (rank.numerator, rank.denominator)


class Told(Checks):
    def test_the_methods_stand_in_the_class(self):
        self.listed_methods(Weighing, ["weights", "rise", "long", "leaf_rank"])

    def test_told_as_handed_in(self):
        weighing = Weighing(WEIGHTS, RISE, LONG)
        self.same([weighing.weights(), weighing.rise(), weighing.long()], [WEIGHTS, RISE, LONG])

    def test_weights_from_nought_to_nine(self):
        for weights in [(0, 0, 0), (9, 9, 9), (0, 9, 0), (9, 0, 9), (1, 2, 3), (8, 7, 6)]:
            self.same(Weighing(weights, RISE, LONG).weights(), weights)
        for number in range(10):
            self.same(Weighing((number, 0, 9), RISE, LONG).weights(), (number, 0, 9))

    def test_rise_in_lowest_terms(self):
        for rise, wanted in [
            ((0, 1), (0, 1)), ((0, 7), (0, 1)), ((1, 1), (1, 1)), ((5, 5), (1, 1)), ((12, 10), (6, 5)), ((2, 1), (2, 1)),
            ((100, 10), (10, 1)), ((1, 1000), (1, 1000)), ((7, 21), (1, 3)), ((GREAT, 1), (GREAT, 1)), ((1, GREAT), (1, GREAT)),
            ((GREAT, GREAT), (1, 1)), ((10 ** 59, 10 ** 58), (10, 1)), ((0, GREAT), (0, 1)), ((GREAT, 3), (GREAT // 3, 1)),
            ((2 * 10 ** 59, 4 * 10 ** 59), (1, 2)), ((GREAT, GREAT - 1), (GREAT, GREAT - 1)),
        ]:
            self.same(Weighing(WEIGHTS, rise, LONG).rise(), wanted)

    def test_long_in_lowest_terms(self):
        for long, wanted in [
            ((0, 1), (0, 1)), ((0, 9), (0, 1)), ((1, 1), (1, 1)), ((8, 8), (1, 1)), ((6, 8), (3, 4)), ((1, 2), (1, 2)),
            ((999, 1000), (999, 1000)), ((GREAT, GREAT), (1, 1)), ((0, GREAT), (0, 1)), ((1, GREAT), (1, GREAT)),
            ((GREAT - 1, GREAT), (GREAT - 1, GREAT)), ((10 ** 59, 2 * 10 ** 59), (1, 2)), ((3, GREAT), (1, GREAT // 3)),
        ]:
            self.same(Weighing(WEIGHTS, RISE, long).long(), wanted)


class Refused(Checks):
    def test_a_weight_below_nought_or_above_nine(self):
        for weight in [-1, -9, 10, 11, 100, -(10 ** 30), 10 ** 30]:
            for weights in [(weight, 1, 2), (3, weight, 2), (3, 1, weight), (weight, weight, weight)]:
                self.refused(NoWeighing, Weighing, weights, RISE, LONG)

    def test_not_just_three_weights(self):
        for weights in [(), (1,), (1, 2), (1, 2, 3, 4), (0, 0), (0, 0, 0, 0), (1,) * 6, (10, 10)]:
            self.refused(NoWeighing, Weighing, weights, RISE, LONG)

    def test_a_rise_below_nought(self):
        for rise in [(-1, 1), (-1, 100), (-GREAT, GREAT), (-6, 5), (-1, GREAT)]:
            self.refused(NoWeighing, Weighing, WEIGHTS, rise, LONG)

    def test_a_long_below_nought_or_above_one(self):
        for long in [(-1, 1), (-1, 100), (-1, GREAT), (2, 1), (5, 4), (GREAT, GREAT - 1), (101, 100), (GREAT, 1), (-3, 4)]:
            self.refused(NoWeighing, Weighing, WEIGHTS, RISE, long)

    def test_a_bottom_of_nought_or_below(self):
        for pair in [(0, 0), (1, 0), (-1, 0), (GREAT, 0), (1, -1), (-1, -1), (0, -1), (-1, -2), (-3, -4), (3, -4), (-GREAT, -GREAT),
                     (1, -GREAT), (0, -GREAT)]:
            self.refused(NoWeighing, Weighing, WEIGHTS, pair, LONG)
            self.refused(NoWeighing, Weighing, WEIGHTS, RISE, pair)
            self.refused(NoWeighing, Weighing, WEIGHTS, pair, pair)


class LeafRank(Checks):
    def test_reckoned_by_hand(self):
        for weighing, handed, wanted in [
            # 2 * (4 * 11/5) / (4 + 6/5 * (1/4 + 3/4 * 9/5))
            (Weighing(WEIGHTS, RISE, LONG), (1, 4, 3, 3, 5), (110, 37)),
            (Weighing(WEIGHTS, RISE, LONG), (2, 3, 3, 3, 5), (220, 123)),
            (Weighing(WEIGHTS, RISE, LONG), (2, 1, 2, 3, 5), (440, 357)),
            # rise 0: the first factor alone
            (Weighing(WEIGHTS, (0, 1), LONG), (1, 4, 3, 3, 5), (2, 1)),
            (Weighing(WEIGHTS, (0, 1), (1, 1)), (3, 9, 1, 4, 50), (5, 4)),
            # long 0: no matter how long
            (Weighing(WEIGHTS, (2, 1), (0, 1)), (1, 4, 3, 1, 3), (2, 1)),
            (Weighing(WEIGHTS, (2, 1), (0, 1)), (1, 4, 300, 1, 300), (2, 1)),
            # long 1: 5/2 * 2 * 4 / (2 + 3 * 10 * 4 / 20)
            (Weighing(WEIGHTS, (3, 1), (1, 1)), (1, 2, 10, 4, 20), (5, 2)),
        ]:
            self.same(weighing.leaf_rank(*handed), wanted)

    def test_nought_where_t_is_nought(self):
        for rise in [(0, 1), (6, 5), (GREAT, 1)]:
            for long in [(0, 1), (3, 4), (1, 1)]:
                for handed in [(1, 0, 3, 3, 5), (40, 0, 1, 40, 40), (1, 0, 600, 1, 600)]:
                    self.same(Weighing(WEIGHTS, rise, long).leaf_rank(*handed), (0, 1))

    def test_the_formula_in_lowest_terms(self):
        chance = random.Random(18)
        for _ in range(3000):
            figures = chance.choice([1, 2, 5, 60])
            rise = (chance.randrange(10 ** figures), chance.randrange(1, 10 ** figures))
            long = (0, chance.randrange(1, 10 ** figures))
            long = (chance.choice([0, long[1], chance.randrange(long[1] + 1)]), long[1])
            many = chance.randrange(1, 41)
            length = chance.choice([1, 2, 7, 100, 600])
            handed = (chance.randrange(1, many + 1), chance.randrange(200), length, many, length + chance.randrange(24000))
            told = Weighing(WEIGHTS, rise, long).leaf_rank(*handed)
            self.same(told, slow_rank(rise, long, *handed))
            self.assertEqual(math.gcd(*told), 1)
            self.assertGreater(told[1], 0)

    def test_the_weights_themselves_play_no_part(self):
        for weights in [(0, 0, 0), (9, 9, 9), (1, 0, 3)]:
            self.same(Weighing(weights, RISE, LONG).leaf_rank(1, 4, 3, 3, 5), (110, 37))

    def test_like_terms_are_alike(self):
        one, other = Weighing(WEIGHTS, (6, 5), (3, 4)), Weighing(WEIGHTS, (600, 500), (75, 100))
        for handed in [(1, 4, 3, 3, 5), (2, 3, 3, 3, 5), (40, 7, 600, 40, 20000)]:
            self.same(one.leaf_rank(*handed), other.leaf_rank(*handed))

    def test_texts_of_any_length(self):
        weighing = Weighing(WEIGHTS, RISE, LONG)
        ranks = [weighing.leaf_rank(2, 3, length, 5, 24000) for length in range(1, 601)]
        self.same(ranks, [slow_rank(RISE, LONG, 2, 3, length, 5, 24000) for length in range(1, 601)])
        for longer, shorter in zip(ranks[1:], ranks):
            self.assertLess(fractions.Fraction(*longer), fractions.Fraction(*shorter))


class Kept(Checks):
    def test_asked_again_the_same_is_told(self):
        weights, rise, long = (3, 1, 2), (12, 10), (6, 8)
        weighing = Weighing(weights, rise, long)
        for _ in range(3):
            self.same([weighing.weights(), weighing.rise(), weighing.long()], [(3, 1, 2), (6, 5), (3, 4)])
            self.same(weighing.leaf_rank(1, 4, 3, 3, 5), (110, 37))
        self.same([weights, rise, long], [(3, 1, 2), (12, 10), (6, 8)])

    def test_two_weighings_do_not_meet(self):
        one, other = Weighing((1, 1, 1), (1, 1), (0, 1)), Weighing((2, 2, 2), (2, 1), (1, 1))
        self.same([one.weights(), one.rise(), one.long()], [(1, 1, 1), (1, 1), (0, 1)])
        self.same([other.weights(), other.rise(), other.long()], [(2, 2, 2), (2, 1), (1, 1)])


if __name__ == "__main__":
    unittest.main()
