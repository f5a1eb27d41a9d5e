"""Groups: how many of the texts that answer have each word in their marks."""

from shownranks.answering import answers_of

MARKS = 2


def groups_of(book, asking):
    """The groups of the texts that answer: a list of tuples (word, many), the greater many first, then by word."""
    many = {}
    for name in answers_of(book, asking):
        for word in sorted({row[0] for row in book.words_in(name, MARKS)}):
            many[word] = many.get(word, 0) + 1
    return sorted(many.items(), key=lambda group: (-group[1], group[0]))
