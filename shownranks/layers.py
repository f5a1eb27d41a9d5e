"""Layers: entries of names, each a text or that it is gone, and how layers are poured together."""


class Layer:
    """A rulebook, the texts of some names, and the other names that are gone."""

    def __init__(self, rulebook, texts, gone):
        self.rules = rulebook
        self.kept_parts = {name: tuple(texts[name]) for name in sorted(texts)}
        self.gone_names = sorted(set(gone))

    def names(self):
        """The names of all entries, sorted."""
        return sorted(list(self.kept_parts) + self.gone_names)

    def gone(self):
        """The names that are gone, sorted."""
        return list(self.gone_names)

    def texts(self):
        """The texts, a dict from names to tuples (head, body, marks)."""
        return {name: self.kept_parts[name] for name in self.kept_parts}


def poured(lower, upper):
    """The layer with each name's entry of the upper layer, or else of the lower one."""
    above = upper.names()
    kept = upper.texts()
    for name, parts in lower.texts().items():
        if name not in above:
            kept[name] = parts
    gone_below = [name for name in lower.gone() if name not in above]
    return Layer(upper.rules, kept, upper.gone() + gone_below)


def lowest(layer):
    """The layer without its gone entries: there is nothing below that they could hide."""
    return Layer(layer.rules, layer.texts(), [])
