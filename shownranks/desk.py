"""The desk: a house that is told rows of text, and answers each with a text."""

from shownranks.best import best_of
from shownranks.bringing import brought_asking
from shownranks.cheaper import cheaper
from shownranks.errors import Lacking, NoName, NoRow
from shownranks.groups import groups_of
from shownranks.houses import House
from shownranks.lists import list_of
from shownranks.numerals import numeral_of, show_fraction
from shownranks.papers import rank_of
from shownranks.pieces import how_many_each, piece_of
from shownranks.reading import read_asking, show_asking
from shownranks.readings import Reading
from shownranks.rows import fraction_in_row, name_and_parts, number_in_row, words_and_ask, words_of_row
from shownranks.ruletexts import read_rulebook
from shownranks.signs import is_name
from shownranks.weighings import Weighing


def show_list(listed):
    """A list of tuples (name, rank) as a text."""
    return "; ".join([f"{name} {show_fraction(rank)}" for name, rank in listed])


def show_numbers(blocks):
    """The numbers of blocks, told with their bounds, as a text."""
    return " ".join([numeral_of(number) for number, bound in blocks])


def show_piece(begin, signs, finds):
    """The signs of a piece, for each find a bracket ahead of its first sign and one behind its last."""
    opened = how_many_each([find[1] for find in finds])
    closed = how_many_each([find[2] for find in finds])
    shown = []
    for at, sign in enumerate(signs):
        shown.append("[" * opened.get(begin + at, 0) + sign + "]" * closed.get(begin + at + 1, 0))
    return "".join(shown)


def say_put(desk, row):
    """put NAME | HEAD | BODY | MARKS"""
    name, parts = name_and_parts(row)
    return numeral_of(desk.house.put(name, parts))


def say_out(desk, row):
    """out NAME"""
    words = words_of_row(row, 1)
    return numeral_of(desk.house.take(words[0]))


def say_weigh(desk, row):
    """weigh A B C RISE LONG"""
    words = words_of_row(row, 5)
    weights = tuple([number_in_row(word) for word in words[:3]])
    desk.weighing = Weighing(weights, fraction_in_row(words[3]), fraction_in_row(words[4]))
    return "ok"


def say_ask(desk, row):
    """ask K ASK"""
    many, ask = words_and_ask(row, 1)
    most = number_in_row(many)
    return show_list(list_of(desk.newest_make(), desk.weighing, desk.asked(ask))[:most])


def say_best(desk, row):
    """best K WIDE ASK"""
    words = words_and_ask(row, 2)
    many, wide = [number_in_row(word) for word in words[:2]]
    listed, gone, skipped = best_of(desk.newest_make(), desk.weighing, desk.asked(words[2]), many, wide)
    return f"{show_list(listed)} | {show_numbers(gone)} | {show_numbers(skipped)}"


def say_rank(desk, row):
    """rank NAME ASK"""
    name, ask = words_and_ask(row, 1)
    rank = rank_of(desk.newest_make(), desk.weighing, name, desk.asked(ask))
    return "none" if rank is None else show_fraction(rank)


def say_piece(desk, row):
    """piece NAME SIGNS ASK"""
    name, signs, ask = words_and_ask(row, 2)
    most = number_in_row(signs)
    piece = piece_of(desk.newest_make(), name, desk.asked(ask), most)
    return "none" if piece is None else show_piece(piece[1], piece[3], piece[4])


def say_groups(desk, row):
    """groups ASK"""
    groups = groups_of(desk.newest_make(), desk.asked(words_and_ask(row, 0)[0]))
    return "; ".join([f"{word} {numeral_of(many)}" for word, many in groups])


def say_cheap(desk, row):
    """cheap ASK"""
    found, steps = cheaper(desk.asked(words_and_ask(row, 0)[0]))
    return f"{show_asking(found)} | {numeral_of(len(steps))}"


def say_read(desk, row):
    """read NAME K ASK"""
    name, many, ask = words_and_ask(row, 2)
    most = number_in_row(many)
    asking = desk.asked(ask)
    if not is_name(name):
        raise NoName("a reading is kept by a name")
    desk.kept_readings[name] = Reading(desk.newest_make(), desk.weighing, asking, most)
    return "ok"


def say_next(desk, row):
    """next NAME"""
    name = words_of_row(row, 1)[0]
    if name not in desk.kept_readings:
        raise Lacking("no reading is kept by this name")
    return show_list(desk.kept_readings[name].page())


ANSWERS = {
    "put": say_put,
    "out": say_out,
    "weigh": say_weigh,
    "ask": say_ask,
    "best": say_best,
    "rank": say_rank,
    "piece": say_piece,
    "groups": say_groups,
    "cheap": say_cheap,
    "read": say_read,
    "next": say_next,
}


class Desk:
    """A house, a weighing, and the readings that are kept by names."""

    def __init__(self, endings, silent):
        self.rules = read_rulebook(endings, silent)
        self.house = House(self.rules)
        self.weighing = Weighing((3, 1, 2), (6, 5), (3, 4))
        self.kept_readings = {}

    def newest_make(self):
        """The newest make of the house, which is the one that is asked."""
        return self.house.make(self.house.newest())

    def asked(self, text):
        """The asking that a text writes, brought."""
        return brought_asking(self.rules, read_asking(text))

    def say(self, row):
        """The answer to a row."""
        if not isinstance(row, str):
            raise NoRow("a row is a text")
        first = row.partition(" ")[0]
        if first not in ANSWERS:
            raise NoRow("no row begins with this word")
        answer = ANSWERS[first]
        return answer(self, row)
