"""Pieces: the few signs of a text that hold the most of what was found."""

from shownranks.errors import NoMany
from shownranks.finds import finds_of
from shownranks.leaves import ALL_PARTS
from shownranks.wholes import is_whole_from_to
from shownranks.words import runs_of


def how_many_each(things):
    """Of each thing, how often it stands in a list."""
    many = {}
    for thing in things:
        many[thing] = many.get(thing, 0) + 1
    return many


def windows_from(part, begin, ends, finds_by_end, leaves_by_end):
    """The windows of a part, from a begin to one of the ends, that hold a find: tuples of which the best is the least.

    Of an end it is told how many finds from the begin on have it, and for how many leaves it is their finds' first one.
    """
    windows = []
    unlike = many = 0
    for end in ends:
        unlike += leaves_by_end.get(end, 0)
        many += finds_by_end.get(end, 0)
        if many > 0:
            windows.append((-unlike, -many, end - begin, part, begin))
    return windows


def windows_of(part, text, finds, most):
    """The windows of at most so many signs of a part, by its text and its finds, as windows_from tells them."""
    begun = {}
    for find_part, begin, end, leaf in finds:
        begun.setdefault(begin, []).append((end, leaf))
    # Each run adds its own finds to those of later runs, so that they are not counted anew for each window.
    finds_by_end = {}
    first_ends = {}
    run_ends = []
    windows = []
    for run, begin, run_end in reversed(runs_of(text)):
        run_ends.insert(0, run_end)
        for end, leaf in begun.get(begin, []):
            finds_by_end[end] = finds_by_end.get(end, 0) + 1
            first_ends[leaf] = min(end, first_ends.get(leaf, end))
        ends = [end for end in run_ends if end - begin <= most]
        windows.extend(windows_from(part, begin, ends, finds_by_end, how_many_each(list(first_ends.values()))))
    return windows


def piece_of(book, name, asking, signs):
    """The best piece of at most so many signs: a tuple (part, begin, end, signs, finds), or None."""
    book.check_name(name)
    if not is_whole_from_to(signs, 1, 400):
        raise NoMany("a piece has from 1 to 400 signs")
    finds = finds_of(book, name, asking)
    texts = book.parts(name)
    windows = []
    for part in ALL_PARTS:
        windows.extend(windows_of(part, texts[part], [find for find in finds if find[0] == part], signs))
    if len(windows) == 0:
        return None
    unlike, many, length, part, begin = min(windows)
    end = begin + length
    held = [find for find in finds if find[0] == part and begin <= find[1] and find[2] <= end]
    return (part, begin, end, texts[part][begin:end], held)
