"""Houses: layers that grow by changes, and the makes that each change leaves behind."""

from shownranks.books import Book
from shownranks.errors import Lacking, NoMake, NoName, NoText
from shownranks.layers import Layer, lowest, poured
from shownranks.signs import are_three_texts, is_name


def standing_texts(rulebook, layers):
    """The texts that stand in layers, told from the lowest up."""
    whole = Layer(rulebook, {}, [])
    for layer in layers:
        whole = poured(whole, layer)
    return whole.texts()


def many_entries(layer):
    """How many entries a layer has."""
    return len(layer.names())


def must_be_poured(layers):
    """Whether the uppermost layer is too great for the one below it."""
    return len(layers) > 1 and 2 * many_entries(layers[-1]) > many_entries(layers[-2])


def with_lowest(layers):
    """The layers, the lowest one made a lowest one; without entries it goes."""
    # Where others stand above it, the lowest layer is one that came earlier.
    if len(layers) > 1:
        return layers
    bottom = lowest(layers[0])
    return [bottom] if bottom.names() else []


class Make(Book):
    """The house as one of its changes left it: the book of all its texts, with a number."""

    def __init__(self, rulebook, texts, number):
        Book.__init__(self, rulebook, texts)
        self.own_number = number

    def number(self):
        """The number of this make."""
        return self.own_number

    def rulebook(self):
        """The rulebook of the house."""
        return super().rulebook()

    def names(self):
        """The names of all texts, sorted."""
        return super().names()

    def words(self):
        """All words, each once, sorted."""
        return super().words()

    def begun(self, start):
        """The words that begin with a text, sorted."""
        return super().begun(start)

    def where(self, word):
        """Where a word stands: the sorted list of tuples (name, part, places)."""
        return super().where(word)

    def length(self, name):
        """How many runs a text has in all its parts, silent ones too."""
        return super().length(name)

    def total(self):
        """How many runs all texts have together."""
        return super().total()

    def parts(self, name):
        """The head, the body and the marks of a text."""
        return super().parts(name)

    def words_in(self, name, part):
        """The words of one part of a text: a list of tuples (word, place, begin, end)."""
        return super().words_in(name, part)


class House:
    """A rulebook and, for each make by its number, the layers that it had, from the lowest up."""

    def __init__(self, rulebook):
        self.rules = rulebook
        self.stacks = [[]]
        self.many_poured = 0
        # Makes are cut into words when they are first asked for, and kept: most are never asked for.
        self.ready_makes = {}

    def put(self, name, parts):
        """Put a text under a name; the new make's number."""
        if not is_name(name):
            raise NoName("a name is made of one to eight small letters")
        if not are_three_texts(parts):
            raise NoText("a text is a tuple of three texts of signs")
        return self.add_layer(Layer(self.rules, {name: parts}, []))

    def take(self, name):
        """Take a name's text out; the new make's number."""
        if not isinstance(name, str) or name not in standing_texts(self.rules, self.stacks[-1]):
            raise Lacking("no text stands under this name")
        return self.add_layer(Layer(self.rules, {}, [name]))

    def add_layer(self, layer):
        """Lay a layer on the newest make's ones and pour as is due; the new make's number."""
        layers = self.stacks[-1] + [layer]
        while must_be_poured(layers):
            upper = layers.pop()
            lower = layers.pop()
            self.many_poured += many_entries(lower) + many_entries(upper)
            layers.append(poured(lower, upper))
        self.stacks.append(with_lowest(layers))
        return self.newest()

    def newest(self):
        """The newest make's number."""
        return len(self.stacks) - 1

    def layers_of(self, number):
        """The layers that a make has, from the lowest up."""
        if not 0 <= number <= self.newest():
            raise NoMake("the house has no make of this number")
        return self.stacks[number]

    def make(self, number):
        """The make of a number, as it was."""
        layers = self.layers_of(number)
        if number not in self.ready_makes:
            self.ready_makes[number] = Make(self.rules, standing_texts(self.rules, layers), number)
        return self.ready_makes[number]

    def sizes(self, number):
        """How many entries a make's layers have, from the lowest up."""
        return [many_entries(layer) for layer in self.layers_of(number)]

    def entries_poured(self):
        """How many entries all layers had together that were poured, since the house began."""
        return self.many_poured
