"""The runs of a text, and the words that a rulebook makes of them."""

from shownranks.signs import is_figure, is_letter


def runs_of(text):
    """The runs of a text, made small: a list of tuples (run, begin, end)."""
    runs = []
    begin = 0
    for at, sign in enumerate(text):
        if not (is_letter(sign) or is_figure(sign)):
            add_run(runs, text, begin, at)
            begin = at + 1
    add_run(runs, text, begin, len(text))
    return runs


def add_run(runs, text, begin, end):
    """Put the run between two places behind the others, unless there is no sign between them."""
    if begin < end:
        runs.append((text[begin:end].lower(), begin, end))


def words_of_runs(rulebook, runs):
    """The words of runs that are cut already: a list of tuples (word, place, begin, end)."""
    words = []
    for place, (run, begin, end) in enumerate(runs):
        if not rulebook.is_silent(run):
            words.append((rulebook.brought(run), place, begin, end))
    return words


def words_of(rulebook, text):
    """The words of a text: a list of tuples (word, place, begin, end)."""
    return words_of_runs(rulebook, runs_of(text))
