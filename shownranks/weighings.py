"""Weighings: what the three parts weigh, and the rank of a leaf by that."""

from shownranks.errors import NoWeighing
from shownranks.fractions import fraction


def check_weights(weights):
    """Refuse what are not three numbers from 0 to 9."""
    if len(weights) != 3:
        raise NoWeighing("there is one weight for each of the three parts")
    for weight in weights:
        if not 0 <= weight <= 9:
            raise NoWeighing("a weight is a number from 0 to 9")


def checked_fraction(pair):
    """The fraction of (top, bottom); refuse one below 0, or with a bottom not above 0."""
    top, bottom = pair
    if bottom <= 0:
        raise NoWeighing("a bottom is above 0")
    if top < 0:
        raise NoWeighing("rise and long are not below 0")
    return fraction(top, bottom)


class Weighing:
    """The weights of head, body and marks, and how ranks rise with counts and fall with length."""

    def __init__(self, weights, rise, long):
        check_weights(weights)
        self.three_weights = tuple(weights)
        self.own_rise = checked_fraction(rise)
        self.own_long = checked_fraction(long)
        if self.own_long[0] > self.own_long[1]:
            raise NoWeighing("long is not above 1")

    def weights(self):
        """The weights of head, body and marks."""
        return self.three_weights

    def rise(self):
        """How slowly ranks rise with counts, a fraction."""
        return self.own_rise

    def long(self):
        """How much the length of a text matters, a fraction."""
        return self.own_long

    def leaf_rank(self, n, t, length, many, total):
        """The rank of a leaf that stands in n of many texts of a total length, and with t in one of this length."""
        if t == 0:
            return (0, 1)
        rise_top, rise_bottom = self.own_rise
        long_top, long_bottom = self.own_long
        # Above and below are both multiplied by the bottoms of rise and long and by the total, so all stay whole.
        whole = rise_bottom * long_bottom * total
        above = t * (rise_top + rise_bottom) * long_bottom * total
        below = t * whole + rise_top * ((long_bottom - long_top) * total + long_top * length * many)
        return fraction((many + 1) * above, (n + 1) * below)
