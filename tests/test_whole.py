"""The whole [4]: whatever row of changes made it, a make answers as one book of all its texts does."""

import random
import unittest

from shownranks.answering import answers_of
from shownranks.best import best_of
from shownranks.blocks import blocks_of
from shownranks.books import Book
from shownranks.bounds import bound_of
from shownranks.bringing import brought_asking
from shownranks.cheaper import cheaper
from shownranks.desk import Desk
from shownranks.errors import Over
from shownranks.finds import finds_of
from shownranks.groups import groups_of
from shownranks.houses import House
from shownranks.lists import list_of
from shownranks.papers import paper_of
from shownranks.pieces import piece_of
from shownranks.reading import read_asking, show_asking
from shownranks.readings import Reading
from shownranks.rulebooks import Rulebook
from shownranks.weighings import Weighing
from helpers import Checks, Slow, chance_texts, many_askings, slow_finds, slow_groups, slow_piece, spoil_told_lists

RULES = Rulebook([("ing", "", 3), ("s", "", 2), ("ies", "y", 2)], ["the", "of"])
WEIGHTS, RISE, LONG = (3, 1, 2), (6, 5), (3, 4)
WEIGHING = Weighing(WEIGHTS, RISE, LONG)


def pages_of(book, asking, many):
    """All pages of a reading."""
    reading, pages = Reading(book, WEIGHING, asking, many), []
    while True:
        try:
            pages.append(reading.page())
        except Over:
            return pages


def all_answers(book, asking):
    """All that is told of an asking."""
    names = book.names()
    return [
        answers_of(book, asking), list_of(book, WEIGHING, asking), best_of(book, WEIGHING, asking, 2, 3),
        [bound_of(book, WEIGHING, block, asking) for block in blocks_of(book, 4)],
        [paper_of(book, WEIGHING, name, asking) for name in names], [finds_of(book, name, asking) for name in names],
        [piece_of(book, name, asking, 11) for name in names], groups_of(book, asking), pages_of(book, asking, 2),
    ]


def changed_house(chance, changes):
    """A house of so many changes by chance, and the texts that each of its makes has."""
    house, each = House(RULES), [{}]
    pool = chance_texts(chance, 9)
    for _ in range(changes):
        texts, name = each[-1], chance.choice(sorted(pool))
        if name in texts and chance.randrange(3) == 0:
            house.take(name)
            each.append({key: texts[key] for key in texts if key != name})
        else:
            parts = pool[chance.choice(sorted(pool))]
            house.put(name, parts)
            each.append({**texts, name: parts})
    return house, each


class Makes(Checks):
    def test_each_make_answers_as_the_book_of_its_texts(self):
        askings = [brought_asking(RULES, asking) for asking in many_askings(["a", "b", "ab", "walking", "the"], 80)]
        for start in range(4):
            chance = random.Random(start)
            house, each = changed_house(chance, 50)
            for number in list(range(51)) + [0, 7]:
                book = Book(RULES, dict(reversed(list(each[number].items()))))
                for asking in chance.sample(askings, 3):
                    self.same(all_answers(house.make(number), asking), all_answers(book, asking))

    def test_a_hundred_changes_and_forty_texts(self):
        chance = random.Random(40)
        house, texts = House(RULES), chance_texts(chance, 40)
        for name in texts:
            house.put(name, ("a b", "walking", "ab"))
        for name in sorted(texts, reverse=True)[:10]:
            house.take(name)
        for name in texts:
            house.put(name, texts[name])
        for name in list(texts)[:10]:
            house.put(name, texts[name])
        self.same(house.newest(), 100)
        book = Book(RULES, texts)
        for asking in many_askings(["a", "b", "ab", "walk"], 12):
            self.same(all_answers(house.make(100), asking), all_answers(book, asking))

    def test_makes_stay_whatever_the_house_does_and_whatever_is_done_to_what_was_told(self):
        chance = random.Random(41)
        house, each = changed_house(chance, 20)
        asking = read_asking("also(any(a; row(a b); near(3 a b)); in(body ab*))")
        before = [all_answers(house.make(number), asking) for number in range(21)]
        for number in range(21):
            spoil_told_lists(house.make(number))
            for told in all_answers(house.make(number), asking):
                for some in told if isinstance(told, tuple) else [told]:
                    some.clear()
        for name in sorted(each[20]):
            house.take(name)
            house.put(name, ("a a a", "a b", "ab"))
        self.same([all_answers(house.make(number), asking) for number in range(21)], before)


class AsTheWordsSay(Checks):
    """The same, over what the slow ways of the tests tell of the texts."""

    def test_all_that_is_told_of_an_asking(self):
        chance = random.Random(42)
        askings = many_askings(["a", "b", "ab", "walk"], 90)
        for start in range(3):
            house, each = changed_house(chance, 30)
            slow = Slow(Book(RULES, each[30]), WEIGHTS, RISE, LONG)
            make = house.make(30)
            names = sorted(each[30])
            for asking in askings[start::3]:
                told = asking.told()
                listed = slow.listed(told)
                self.same(all_answers(make, asking), [
                    sorted(name for name, _ in listed), listed, slow.best(told, 2, 3),
                    [slow.bound(names[at:at + 4], told) for at in range(0, len(names), 4)],
                    [slow.paper(name, told) for name in names], [sorted(slow_finds(make, name, told)) for name in names],
                    [slow_piece(make, name, told, 11) for name in names], slow_groups(make, told),
                    [listed[at:at + 2] for at in range(0, len(listed), 2)],
                ])

    def test_a_cheaper_asking_in_each_make(self):
        chance = random.Random(43)
        house, each = changed_house(chance, 25)
        for asking in many_askings(["a", "b"], 40):
            found, _ = cheaper(asking)
            for number in [0, 1, 12, 25]:
                make = house.make(number)
                self.same(list_of(make, WEIGHING, found), list_of(make, WEIGHING, asking))
                self.same(groups_of(make, found), groups_of(make, asking))

    def test_pieces_hold_no_less_than_any_window_as_short(self):
        chance = random.Random(44)
        book = Book(RULES, chance_texts(chance, 3))
        for asking in many_askings(["a", "b", "ab"], 40):
            for name in book.names():
                for signs in [3, 9, 30]:
                    self.same(piece_of(book, name, asking, signs), slow_piece(book, name, asking.told(), signs))


class Desks(Checks):
    def test_a_desk_answers_as_the_book_of_its_texts(self):
        chance = random.Random(45)
        texts = chance_texts(chance, 8)
        desk = Desk("ing->:3 s->:2 ies->y:2", "the of")
        for name in list(texts) + sorted(texts):
            desk.say(f"put {name} |  | a | b")
            if chance.randrange(2):
                desk.say(f"out {name}")
            desk.say(f"put {name} | " + " | ".join(texts[name]))
        book = Book(RULES, texts)
        for asking in many_askings(["a", "b", "ab", "walking", "the"], 60):
            listed = list_of(book, WEIGHING, brought_asking(RULES, asking))
            shown = "; ".join(f"{name} {top}/{bottom}".removesuffix("/1") for name, (top, bottom) in listed)
            self.same(desk.say(f"ask 40 {show_asking(asking)}"), shown)


if __name__ == "__main__":
    unittest.main()
