"""Layers [8]: entries, and layers poured together."""

import itertools
import unittest

from shownranks.layers import Layer, lowest, poured
from shownranks.rulebooks import Rulebook
from helpers import Checks

RULES = Rulebook([("s", "", 2)], ["the"])


def text(word):
    return (word, f"{word} body", "")


class Layers(Checks):
    def told(self, layer, texts, gone):
        """The layer has just these entries."""
        self.assertIsInstance(layer, Layer)
        self.assertEqual(layer.texts(), texts)
        self.assertIs(type(layer.texts()), dict)
        for parts in layer.texts().values():
            self.assertIs(type(parts), tuple)
        self.same(layer.gone(), sorted(gone))
        self.same(layer.names(), sorted(list(texts) + gone))


class Entries(Layers):
    def test_the_methods_stand_in_the_class(self):
        self.listed_methods(Layer, ["names", "gone", "texts"])

    def test_a_layer_without_entries(self):
        self.told(Layer(RULES, {}, []), {}, [])

    def test_texts_alone(self):
        self.told(Layer(RULES, {"b": text("x"), "a": text("y")}, []), {"a": text("y"), "b": text("x")}, [])

    def test_gone_alone(self):
        self.told(Layer(RULES, {}, ["c", "a", "b"]), {}, ["a", "b", "c"])

    def test_both_kinds(self):
        self.told(Layer(RULES, {"d": text("x"), "b": text("y")}, ["c", "a"]), {"b": text("y"), "d": text("x")}, ["a", "c"])

    def test_texts_without_signs(self):
        self.told(Layer(RULES, {"a": ("", "", "")}, []), {"a": ("", "", "")}, [])


class Poured(Layers):
    def test_entries_of_either_kind_on_either_side(self):
        # What a name has: no entry, a text, or that it is gone; in the lower and in the upper layer.
        kinds = ["none", "text", "gone"]
        pairs = list(itertools.product(kinds, kinds))
        names = "abcdefghi"
        lower_texts = {name: text("low" + name) for name, (low, _) in zip(names, pairs) if low == "text"}
        upper_texts = {name: text("up" + name) for name, (_, up) in zip(names, pairs) if up == "text"}
        lower_gone = [name for name, (low, _) in zip(names, pairs) if low == "gone"]
        upper_gone = [name for name, (_, up) in zip(names, pairs) if up == "gone"]
        whole = poured(Layer(RULES, lower_texts, lower_gone), Layer(RULES, upper_texts, upper_gone))
        # pairs: a none/none, b none/text, c none/gone, d text/none, e text/text, f text/gone,
        # g gone/none, h gone/text, i gone/gone.
        self.told(whole, {"b": text("upb"), "d": text("lowd"), "e": text("upe"), "h": text("uph")}, ["c", "f", "g", "i"])

    def test_one_name_at_a_time(self):
        low, up, gone = Layer(RULES, {"a": text("x")}, []), Layer(RULES, {"a": text("y")}, []), Layer(RULES, {}, ["a"])
        nothing = Layer(RULES, {}, [])
        self.told(poured(low, up), {"a": text("y")}, [])
        self.told(poured(up, low), {"a": text("x")}, [])
        self.told(poured(low, gone), {}, ["a"])
        self.told(poured(gone, low), {"a": text("x")}, [])
        self.told(poured(gone, gone), {}, ["a"])
        self.told(poured(low, nothing), {"a": text("x")}, [])
        self.told(poured(nothing, low), {"a": text("x")}, [])
        self.told(poured(gone, nothing), {}, ["a"])
        self.told(poured(nothing, gone), {}, ["a"])
        self.told(poured(nothing, nothing), {}, [])

    def test_unlike_names_all_stay(self):
        lower, upper = Layer(RULES, {"d": text("d"), "a": text("a")}, ["c"]), Layer(RULES, {"b": text("b")}, ["e"])
        self.told(poured(lower, upper), {"a": text("a"), "b": text("b"), "d": text("d")}, ["c", "e"])

    def test_poured_in_any_grouping_three_layers_are_the_same(self):
        one = Layer(RULES, {"a": text("1a"), "b": text("1b"), "c": text("1c")}, ["d"])
        two = Layer(RULES, {"d": text("2d"), "b": text("2b")}, ["a"])
        three = Layer(RULES, {"a": text("3a")}, ["b"])
        wanted = {"a": text("3a"), "c": text("1c"), "d": text("2d")}
        self.told(poured(poured(one, two), three), wanted, ["b"])
        self.told(poured(one, poured(two, three)), wanted, ["b"])

    def test_the_two_layers_stay(self):
        lower, upper = Layer(RULES, {"a": text("x")}, ["b"]), Layer(RULES, {"b": text("y")}, ["a", "c"])
        poured(lower, upper)
        self.told(lower, {"a": text("x")}, ["b"])
        self.told(upper, {"b": text("y")}, ["a", "c"])

    def test_what_is_poured_does_not_meet_what_it_came_from(self):
        lower, upper = Layer(RULES, {"a": text("x")}, ["b"]), Layer(RULES, {"c": text("y")}, ["d"])
        whole = poured(lower, upper)
        whole.texts()["e"] = text("z")
        whole.gone().append("f")
        self.told(whole, {"a": text("x"), "c": text("y")}, ["b", "d"])
        self.told(lower, {"a": text("x")}, ["b"])
        self.told(upper, {"c": text("y")}, ["d"])


class Lowest(Layers):
    def test_gone_entries_are_left_out(self):
        layer = Layer(RULES, {"b": text("y"), "d": ("", "", "")}, ["c", "a"])
        self.told(lowest(layer), {"b": text("y"), "d": ("", "", "")}, [])
        self.told(layer, {"b": text("y"), "d": ("", "", "")}, ["a", "c"])

    def test_without_gone_entries_it_is_as_it_was(self):
        self.told(lowest(Layer(RULES, {"b": text("y")}, [])), {"b": text("y")}, [])
        self.told(lowest(Layer(RULES, {}, [])), {}, [])

    def test_of_gone_entries_alone_nothing_is_left(self):
        self.told(lowest(Layer(RULES, {}, ["a", "b"])), {}, [])


class Kept(Layers):
    """[2]: what is done later changes no answer."""

    def test_what_is_handed_in_stays(self):
        texts, gone = {"b": text("x"), "a": text("y")}, ["d", "c"]
        layer = Layer(RULES, texts, gone)
        lowest(poured(layer, layer))
        layer.names(), layer.gone(), layer.texts()
        self.same(texts, {"b": text("x"), "a": text("y")})
        self.same(gone, ["d", "c"])

    def test_changed_afterwards_it_changes_nothing(self):
        texts, gone = {"b": text("x"), "a": text("y")}, ["d", "c"]
        layer = Layer(RULES, texts, gone)
        texts["a"] = text("z")
        texts["e"] = text("z")
        gone.append("f")
        gone[0] = "g"
        self.told(layer, {"b": text("x"), "a": text("y")}, ["c", "d"])
        texts.clear()
        gone.clear()
        self.told(layer, {"b": text("x"), "a": text("y")}, ["c", "d"])

    def test_what_is_told_changed_afterwards_changes_nothing(self):
        layer = Layer(RULES, {"b": text("x")}, ["c"])
        layer.names().append("z")
        layer.gone().clear()
        layer.texts()["b"] = text("z")
        layer.texts().clear()
        self.told(layer, {"b": text("x")}, ["c"])


if __name__ == "__main__":
    unittest.main()
