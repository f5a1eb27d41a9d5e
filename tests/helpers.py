"""What several test files need."""

import fractions
import itertools
import random
import re
import unittest

from shownranks.askings import All, Also, Any, Begin, But, By, In, Near, Never, Row, Word
from shownranks.houses import House

# Things of all kinds, and texts, that are no names.
NO_NAMES = [
    None, True, False, 0, 1, -1, 10 ** 30, "", " ", "A", "Z", "a1", "0", "a b", " a", "a ", "a\n", "\n", "abcdefghi", "aB",
    "`", "{", "a-b", "\u00e9", "\u00aa", b"a", b"", [], ["a"], (), ("a",), ("a", "b", "c"), (["a"],), {}, {"a": "b"},
    {"a"}, frozenset("a"), object(), len, ValueError, [["a"]],
]


class Checks(unittest.TestCase):
    """A test case with the checks that several files share."""

    maxDiff = None

    def same(self, told, wanted):
        """Alike in worth and in kind, all the way down: True is no 1, and a list no tuple."""
        self.assertEqual(told, wanted)
        self.assertEqual(repr(told), repr(wanted))

    def refused(self, kind, call, *handed):
        """The call is refused, and with this class."""
        with self.assertRaises(kind, msg=f"{call} of {handed!r}"):
            call(*handed)

    def truth(self, told, wanted):
        """True or False itself, not merely something that counts as it."""
        self.assertIs(told, wanted)

    def listed_methods(self, kind, names):
        """Each method stands in the class itself."""
        for name in names:
            self.assertTrue(callable(vars(kind).get(name)), f"{kind.__name__}.{name}")


def starts_of(words):
    """Each beginning of the words, the words themselves, and some texts with which none begins."""
    starts = {"", "A", "Sea", "zz", "-", " ", "sea "}
    for word in words:
        starts |= {word[:end] for end in range(len(word) + 1)} | {word + "x", word + "s", word.upper(), word[1:]}
    return sorted(starts)


def all_told(book):
    """All that a book tells, by each of its methods."""
    names, starts = book.names(), starts_of(book.words())
    return [
        names, book.words(), book.total(), [book.begun(start) for start in starts], [book.where(word) for word in starts],
        [book.length(name) for name in names], [book.parts(name) for name in names],
        [[book.words_in(name, part) for part in (0, 1, 2)] for name in names],
    ]


def spoil_told_lists(book):
    """Change every list that a book tells, and the lists within them."""
    for name in book.names():
        for part in (0, 1, 2):
            book.words_in(name, part).append(("more", 0, 0, 4))
            book.words_in(name, part).clear()
    for word in book.words():
        for spot in book.where(word):
            spot[2].append(99)
            spot[2].reverse()
        book.where(word).clear()
    for told in (book.names(), book.words(), book.begun("")):
        told.reverse()
        told.append("more")


def chance_leaf(chance, words):
    """A leaf or a Never, of words out of a list."""
    one, other = chance.choice(words), chance.choice(words)
    return chance.choice([
        Word(one), Word(one), Begin(one[:chance.randrange(1, len(one) + 1)]), Near(chance.randrange(1, 21), one, other),
        Near(chance.randrange(1, 4), one, one), Row([chance.choice(words) for _ in range(chance.randrange(2, 7))]),
        Row([one, other]), Never(),
    ])


def chance_asking(chance, words, nodes, deep):
    """An asking of any sorts, of so many nodes at most, at most so many within one another."""
    sort = chance.choice(["leaf", "in", "by", "but", "also", "all", "any", "all", "any"])
    if nodes < 3 or deep == 0 or sort == "leaf":
        return chance_leaf(chance, words)
    if sort in ("in", "by"):
        inner = chance_asking(chance, words, nodes - 1, deep - 1)
        return In(chance.randrange(3), inner) if sort == "in" else By(chance.choice([0, 1, 2, 999]), inner)
    if sort in ("but", "also"):
        one, other = [chance_asking(chance, words, (nodes - 1) // 2, deep - 1) for _ in range(2)]
        return But(one, other) if sort == "but" else Also(one, other)
    many = chance.randrange(1, min(5, nodes - 1) + 1)
    some = [chance_asking(chance, words, (nodes - 1) // many, deep - 1) for _ in range(many)]
    return All(some) if sort == "all" else Any(some)


def many_askings(words, many):
    """Askings of all sizes up to 40 nodes and up to ten within one another, the same ones each time."""
    chance = random.Random(len(words))
    return [chance_asking(chance, words, 1 + number % 40, 10) for number in range(many)]


def each_sort_ten_deep():
    """Askings of ten within one another, of one sort throughout, and of all sorts in turn."""
    wraps = [
        lambda inner: In(1, inner), lambda inner: By(7, inner), lambda inner: All([inner, Word("x")]),
        lambda inner: Any([Word("y"), inner]), lambda inner: But(inner, Word("z")), lambda inner: Also(inner, Never()),
        lambda inner: But(Word("z"), inner), lambda inner: Also(Word("z"), inner), lambda inner: All([inner]),
        lambda inner: Any([inner]),
    ]
    made = []
    for rows in [[wrap] * 10 for wrap in wraps] + [wraps, wraps[::-1]]:
        asking = Word("a")
        for wrap in rows:
            asking = wrap(asking)
        made.append(asking)
    return made


def slow_count(words, told):
    """[16], as slowly and plainly as may be: the count of a leaf, told so, in a part of these words."""
    at = {place: word for word, place, _, _ in words}
    if told[0] == "word":
        return sum(word == told[1] for word in at.values())
    if told[0] == "begin":
        return sum(word.startswith(told[1]) for word in at.values())
    if told[0] == "row":
        return sum(all(at.get(place + step) == word for step, word in enumerate(told[1])) for place in range(401))
    _, far, one, other = told
    pairs = {
        frozenset((here, there)) for here in at for there in at
        if here != there and abs(here - there) <= far and at[here] == one and at[there] == other
    }
    return len(pairs)


LEAVES = ("word", "begin", "row", "near")


class Slow:
    """[16] to [20] of a book and a weighing, as slowly and plainly as may be, over what askings tell of themselves."""

    def __init__(self, book, weights=(3, 1, 2), rise=(6, 5), long=(3, 4)):
        self.names = book.names()
        self.words = {(name, part): book.words_in(name, part) for name in self.names for part in (0, 1, 2)}
        self.lengths = {name: book.length(name) for name in self.names}
        self.weights = weights
        self.rise = fractions.Fraction(*rise)
        self.long = fractions.Fraction(*long)
        self.counted = {}

    def counts(self, name, leaf, parts):
        """Its counts in the three parts, 0 where it is not looked for."""
        if (name, leaf) not in self.counted:
            self.counted[name, leaf] = [slow_count(self.words[name, part], leaf) for part in (0, 1, 2)]
        return tuple(count if part in parts else 0 for part, count in enumerate(self.counted[name, leaf]))

    def within(self, told, parts):
        """The askings that one is made of, each with the parts in which it is looked for."""
        some = told[1] if told[0] in ("all", "any") else [part for part in told[1:] if isinstance(part, tuple)]
        return [(one, [part for part in parts if told[0] != "in" or part == told[1]]) for one in some]

    def answers(self, name, told, parts=(0, 1, 2)):
        if told[0] in LEAVES:
            return any(count > 0 for count in self.counts(name, told, parts))
        each = [self.answers(name, one, further) for one, further in self.within(told, parts)]
        return {
            "in": lambda: each[0], "by": lambda: each[0], "all": lambda: all(each), "any": lambda: any(each),
            "but": lambda: each[0] and not each[1], "also": lambda: each[0], "never": lambda: False,
        }[told[0]]()

    def leaf_rank(self, n, t, length, many, total):
        if t == 0:
            return fractions.Fraction(0)
        below = t + self.rise * (1 - self.long + self.long * length * many / total)
        return fractions.Fraction(many + 1, n + 1) * (t * (self.rise + 1)) / below

    def rank(self, name, told, parts=(0, 1, 2)):
        """The rank as Python's own fraction; None where the text does not answer."""
        if not self.answers(name, told, parts):
            return None
        if told[0] in LEAVES:
            n, _, t, length = self.numbers(name, told, parts)
            return self.leaf_rank(n, t, length, len(self.names), sum(self.lengths.values()))
        ranks = [self.rank(name, one, further) for one, further in self.within(told, parts)]
        if told[0] == "by":
            return told[1] * ranks[0]
        return ranks[0] if told[0] == "but" else sum(rank for rank in ranks if rank is not None)

    def numbers(self, name, leaf, parts):
        n = sum(self.answers(other, leaf, parts) for other in self.names)
        counts = self.counts(name, leaf, parts)
        return (n, counts, sum(weight * count for weight, count in zip(self.weights, counts)), self.lengths[name])

    def paper(self, name, told, parts=(0, 1, 2)):
        leaf = told[0] in LEAVES
        within = [] if leaf else self.within(told, parts)
        numbers = self.numbers(name, told, parts) if leaf else ()
        return (
            as_pair(self.rank(name, told, parts)), numbers, tuple(self.paper(name, one, further) for one, further in within),
        )

    def listed(self, told):
        ranks = [(name, self.rank(name, told)) for name in self.names if self.answers(name, told)]
        return [(name, as_pair(rank)) for name, rank in sorted(ranks, key=lambda row: (-row[1], row[0]))]

    def bound(self, names, told, parts=(0, 1, 2)):
        """[21]: the bound of some texts."""
        if told[0] in LEAVES:
            n = self.numbers(names[0], told, parts)[0]
            standing = [self.numbers(name, told, parts) for name in names if self.answers(name, told, parts)]
            if not standing:
                return (None, (n, 0, 0), ())
            t, length = max(numbers[2] for numbers in standing), min(numbers[3] for numbers in standing)
            rank = self.leaf_rank(n, t, length, len(self.names), sum(self.lengths.values()))
            return (as_pair(rank), (n, t, length), ())
        bounds = tuple(self.bound(names, one, further) for one, further in self.within(told, parts))
        each = [None if bound[0] is None else fractions.Fraction(*bound[0]) for bound in bounds]
        some = [rank for rank in each if rank is not None]
        if told[0] == "never" or told[0] != "any" and each[0] is None or told[0] == "any" and not some:
            rank = None
        elif told[0] == "all" and len(some) < len(each):
            rank = None
        else:
            rank = {"in": each[0], "by": each[0], "but": each[0]}.get(told[0], sum(some))
            rank *= told[1] if told[0] == "by" else 1
        return (as_pair(rank), (), bounds)

    def best(self, told, many, wide):
        """[22]: the best so many, the blocks gone through and those skipped, by its first sentences."""
        blocks = [self.names[begin:begin + wide] for begin in range(0, len(self.names), wide)]
        bounds = [(number, self.bound(block, told)[0]) for number, block in enumerate(blocks)]
        best = self.listed(told)[:many]
        gone = [row for row in bounds if row[1] is not None]
        if len(best) == many:
            last = fractions.Fraction(*best[-1][1])
            gone = [row for row in gone if fractions.Fraction(*row[1]) >= last]
        return (best, gone, [row for row in bounds if row not in gone])

    def gone_from_the_greatest(self, told, many, wide):
        """[22]: the numbers of the blocks gone through, by its sentence in brackets."""
        blocks = [self.names[begin:begin + wide] for begin in range(0, len(self.names), wide)]
        bounds = [(self.bound(block, told)[0], number) for number, block in enumerate(blocks)]
        bounds = [(fractions.Fraction(*rank), number) for rank, number in bounds if rank is not None]
        gone, ranks = [], []
        for bound, number in sorted(bounds, reverse=True):
            if len(ranks) >= many and bound < sorted(ranks, reverse=True)[many - 1]:
                break
            gone.append(number)
            ranks += [self.rank(name, told) for name in blocks[number] if self.answers(name, told)]
        return sorted(gone)


def as_pair(rank):
    """Python's own fraction as a tuple (top, bottom), None as it is."""
    return None if rank is None else (rank.numerator, rank.denominator)


def slow_spans(words, told):
    """[25]: the pairs (begin, end) of a leaf, told so, in a part of these words."""
    at = {place: (word, begin, end) for word, place, begin, end in words}
    if told[0] == "word":
        return [(begin, end) for word, begin, end in at.values() if word == told[1]]
    if told[0] == "begin":
        return [(begin, end) for word, begin, end in at.values() if word[:len(told[1])] == told[1]]
    if told[0] == "row":
        last = len(told[1]) - 1
        return [
            (at[place][1], at[place + last][2]) for place in at
            if [at.get(place + step, [None])[0] for step in range(last + 1)] == list(told[1])
        ]
    return [
        (at[here][1], at[there][2]) for here in at for there in at
        if 0 < there - here <= told[1] and sorted([at[here][0], at[there][0]]) == sorted(told[2:])
    ]


def slow_written(leaf):
    """[13]: a leaf, told so, as it is written."""
    return {
        "word": lambda: leaf[1], "begin": lambda: leaf[1] + "*", "row": lambda: "row(" + " ".join(leaf[1]) + ")",
        "near": lambda: "near(" + " ".join(map(str, leaf[1:])) + ")",
    }[leaf[0]]()


def slow_finds(book, name, told, parts=(0, 1, 2)):
    """[25]: the set of finds of a text for an asking that is told so."""
    if told[0] in LEAVES:
        return {
            (part, begin, end, slow_written(told)) for part in parts
            for begin, end in slow_spans(book.words_in(name, part), told)
        }
    inner = told_inner(told)[:1] if told[0] == "but" else told_inner(told)
    parts = [part for part in parts if told[0] != "in" or part == told[1]]
    return set().union(*[slow_finds(book, name, one, parts) for one in inner])


def slow_piece(book, name, told, most):
    """[26]: the best of all windows, each looked at by itself."""
    finds = slow_finds(book, name, told)
    windows = []
    for part, text in enumerate(book.parts(name)):
        runs = [(found.start(), found.end()) for found in re.finditer("[A-Za-z0-9]+", text)]
        for (begin, _), (_, end) in itertools.combinations_with_replacement(runs, 2):
            held = sorted(find for find in finds if find[0] == part and begin <= find[1] and find[2] <= end)
            if held and end - begin <= most:
                order = (-len({find[3] for find in held}), -len(held), end - begin, part, begin)
                windows.append((order, (part, begin, end, text[begin:end], held)))
    return min(windows)[1] if windows else None


def slow_groups(book, told):
    """[27]"""
    slow = Slow(book)
    many = {}
    for name in book.names():
        for word in {word for word, _, _, _ in book.words_in(name, 2)} if slow.answers(name, told) else ():
            many[word] = many.get(word, 0) + 1
    return sorted(many.items(), key=lambda group: (-group[1], group[0]))


def told_inner(told):
    """The askings that one is made of, as it is told."""
    if told[0] in ("all", "any"):
        return told[1]
    return () if told[0] in LEAVES else tuple(part for part in told[1:] if isinstance(part, tuple))


def slow_cost(told):
    """[23]: the cost of an asking that is told so."""
    costs = [slow_cost(inner) for inner in told_inner(told)]
    return (max(1, sum(cost[0] for cost in costs)), 1 + sum(cost[1] for cost in costs))


def slow_puts_of_several(told):
    """[23]: pairs (rule, put) at an All or Any."""
    sort, some = told
    never = ("never",)
    if len(some) == 1:
        yield "one", some[0]
    for at, inner in enumerate(some):
        if inner[0] == sort:
            yield "flat", (sort, some[:at] + inner[1] + some[at + 1:])
        if inner == never:
            if sort == "all":
                yield "never", never
            elif len(some) > 1:
                yield "never", (sort, some[:at] + some[at + 1:])
    for (first, one), (second, other) in itertools.combinations(enumerate(some), 2):
        (_, times, rest), (_, more, same) = [asking if asking[0] == "by" else ("by", 1, asking) for asking in (one, other)]
        if rest == same and times + more < 1000:
            left = list(some)
            left[first] = ("by", times + more, rest)
            del left[second]
            yield "like", (sort, tuple(left))
    for rule, around in [("pull", "by"), ("part", "in")]:
        if len(some) > 1 and {inner[0] for inner in some} == {around} and len({inner[1] for inner in some}) == 1:
            yield rule, (around, some[0][1], (sort, tuple(inner[2] for inner in some)))
    for one, (at, other) in itertools.product(some, enumerate(some)):
        if other[0] in ("all", "any") and other[0] != sort and one in other[1]:
            yield "behind", (sort, some[:at] + some[at + 1:])


def slow_puts(told):
    """[23]: pairs (rule, put) at one node, those of "behind" as if it were due there."""
    never, sort = ("never",), told[0]
    if sort in ("all", "any"):
        yield from slow_puts_of_several(told)
    if sort == "also":
        (_, times, rest), (_, more, same) = [inner if inner[0] == "by" else ("by", 1, inner) for inner in told[1:]]
        if rest == same and times + more < 1000:
            yield "like", ("by", times + more, rest)
        yield "behind", told[1]
    if sort == "by":
        if told[1] == 1:
            yield "by", told[2]
        if told[2][0] == "by" and told[1] * told[2][1] < 1000:
            yield "by", ("by", told[1] * told[2][1], told[2][2])
        yield "behind", told[2]
    if sort == "in" and told[2][0] == "in":
        yield "in", told[2] if told[1] == told[2][1] else never
    if sort in ("in", "by") and told[2] == never or sort in ("but", "also") and told[1] == never:
        yield "never", never
    if sort in ("but", "also") and told[2] == never:
        yield "never", told[1]
    if sort == "but" and told[1] == told[2]:
        yield "away", never


def slow_steps(told, path=(), behind=False):
    """[23]: the set of all steps (rule, path, put as it is told) of an asking that is told so."""
    steps = {(rule, path, put) for rule, put in slow_puts(told) if behind or rule != "behind"}
    for at, inner in enumerate(told_inner(told)):
        steps |= slow_steps(inner, path + (at,), behind or told[0] == "but" and at == 1)
    return steps


def chance_texts(chance, many):
    """Texts of few words, so that leaves stand often, with silent words and other signs between."""
    words = ["a", "b", "ab", "the", "as", "walking", "b", "a"]
    names = [one + other for one in "pqrs" for other in "abcdefghij"]
    chance.shuffle(names)
    texts = {}
    for name in names[:many]:
        texts[name] = tuple(
            "".join(chance.choice(words) + chance.choice([" ", "; ", " - "]) for _ in range(chance.choice([0, 1, 5, 20])))
            for _ in range(3)
        )
    return texts


def cheapable_asking(chance, nodes, deep):
    """An asking of few words, few numbers and many alike parts, so that rules often apply, or nearly do."""
    sort = chance.choice(["leaf", "in", "by", "but", "also", "all", "any", "all", "any", "but"])
    if nodes < 2 or deep == 0 or sort == "leaf":
        return chance.choice([Word("a"), Word("a"), Word("b"), Begin("a"), Row(["a", "b"]), Near(2, "a", "b"), Never()])
    if sort in ("in", "by"):
        inner = cheapable_asking(chance, nodes - 1, deep - 1)
        return In(chance.randrange(2), inner) if sort == "in" else By(chance.choice([0, 1, 2, 31, 33, 499, 500, 998, 999]), inner)
    many = 2 if sort in ("but", "also") else chance.randrange(1, 5)
    some = [cheapable_asking(chance, (nodes - 1) // many, deep - 1) for _ in range(many)]
    if chance.randrange(2):
        some = [chance.choice(some) for _ in some]
    if chance.randrange(4) == 0:
        times, part = chance.choice([0, 1, 2, 499, 500]), chance.randrange(2)
        some = [By(times, one) for one in some] if chance.randrange(2) else [In(part, one) for one in some]
    if sort in ("but", "also"):
        return But(*some) if sort == "but" else Also(*some)
    if chance.randrange(2):
        some.insert(chance.randrange(len(some) + 1), (Any if sort == "all" else All)([chance.choice(some), Word("b")]))
    return All(some) if sort == "all" else Any(some)


def cheapable_askings(many):
    """Askings to which rules often apply, of at most 40 nodes, the same ones each time."""
    chance = random.Random(23)
    made = []
    while len(made) < many:
        asking = cheapable_asking(chance, chance.randrange(1, 40), 6)
        if slow_cost(asking.told())[1] <= 40:
            made.append(asking)
    return made


def make_of(rules, texts):
    """A make with these texts, to which its house came by some detours."""
    house = House(rules)
    for number, name in enumerate(texts):
        house.put(name, ("a b other", "text", ""))
        if number % 3 == 0:
            house.take(name)
        house.put(name, texts[name])
    house.put("zzz", ("a a a a", "b sea red", "sea"))
    return house.make(house.take("zzz"))


# What is none of a book's names, whatever names of small letters it has beside "zz" and "nobody".
NONE_OF_THE_NAMES = NO_NAMES + [
    "zz", "nobody", ("sea",), ["sea"], {"sea": 1}, {"sea": ("a", "b", "c")}, b"sea", "SEA", "sea ", " sea", [], {}, 7,
    ("sea", 0), [("sea",)], (None,), ((),), -(10 ** 30),
]

# What is no whole number from 1 to 40.
NO_MANY = [
    0, 41, 42, 100, -1, -2, -40, 10 ** 30, -(10 ** 30), 2 ** 64, True, False, None, "", "1", "5", "a", b"1", [], [1], (), (1,),
    {}, {1: 1}, {1}, frozenset([1]), object(), len, int, [[]], [5, 5],
]
