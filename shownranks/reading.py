"""Askings as they are written: read from a text, and shown as one."""

from shownranks.askings import All, Also, Any, Begin, But, By, In, Near, Never, Row, Word
from shownranks.errors import NoAsking
from shownranks.numerals import is_numeral
from shownranks.signs import is_plain_sign

PART_NAMES = ("head", "body", "marks")

# Brackets are read by calls within one another, and calls must not go as deep as a text may open brackets.
DEEPEST = 100

# No number of an asking has more, and Python itself refuses to read a number of very many figures.
MOST_FIGURES = 3


class Scan:
    """A written asking, and how far it has been gone through."""

    def __init__(self, text):
        self.text = text
        self.at = 0

    def is_over(self):
        """Whether nothing is left of the text."""
        return self.at == len(self.text)

    def goes_on(self, mark):
        """Whether a mark stands here; where it does, go behind it."""
        if not self.text.startswith(mark, self.at):
            return False
        self.at += len(mark)
        return True

    def must_go_on(self, mark):
        """Go behind a mark, and refuse the text where it does not stand here."""
        if not self.goes_on(mark):
            raise NoAsking(f"there must be '{mark}' at sign {self.at}")

    def next_plain(self):
        """The small letters and figures that stand here, perhaps none; go behind them."""
        begin = self.at
        while self.at < len(self.text) and is_plain_sign(self.text[self.at]):
            self.at += 1
        return self.text[begin:self.at]


def check_brackets(text):
    """Refuse a text with brackets too deep within one another to be read."""
    deep = 0
    for sign in text:
        if sign == "(":
            deep += 1
        elif sign == ")":
            deep -= 1
        if deep > DEEPEST:
            raise NoAsking("there are too many brackets within one another")


def read_number(scan):
    """A number by figures, without noughts ahead but for 0 itself."""
    figures = scan.next_plain()
    if not is_numeral(figures) or len(figures) > MOST_FIGURES:
        raise NoAsking(f"a number must end at sign {scan.at}")
    return int(figures)


def read_row(scan):
    """What stands in the brackets of a Row."""
    words = [scan.next_plain()]
    while scan.goes_on(" "):
        words.append(scan.next_plain())
    return Row(words)


def read_near(scan):
    """What stands in the brackets of a Near."""
    far = read_number(scan)
    scan.must_go_on(" ")
    one = scan.next_plain()
    scan.must_go_on(" ")
    return Near(far, one, scan.next_plain())


def read_in(scan):
    """What stands in the brackets of an In."""
    part = scan.next_plain()
    if part not in PART_NAMES:
        raise NoAsking("a part is head, body or marks")
    scan.must_go_on(" ")
    return In(PART_NAMES.index(part), read_one(scan))


def read_several(scan):
    """A list of one asking or more."""
    several = [read_one(scan)]
    while scan.goes_on("; "):
        several.append(read_one(scan))
    return several


def read_all(scan):
    """What stands in the brackets of an All."""
    return All(read_several(scan))


def read_any(scan):
    """What stands in the brackets of an Any."""
    return Any(read_several(scan))


def read_two(scan):
    """A list of just two askings."""
    one = read_one(scan)
    scan.must_go_on("; ")
    return [one, read_one(scan)]


def read_but(scan):
    """What stands in the brackets of a But."""
    one, other = read_two(scan)
    return But(one, other)


def read_also(scan):
    """What stands in the brackets of an Also."""
    one, other = read_two(scan)
    return Also(one, other)


def read_by(scan):
    """What stands in the brackets of a By."""
    times = read_number(scan)
    scan.must_go_on(" ")
    return By(times, read_one(scan))


READ_BY_SORT = {
    "row": read_row,
    "near": read_near,
    "in": read_in,
    "all": read_all,
    "any": read_any,
    "but": read_but,
    "also": read_also,
    "by": read_by,
}


def read_one(scan):
    """The asking that begins here; go behind it."""
    if scan.goes_on("-"):
        return Never()
    word = scan.next_plain()
    if scan.goes_on("*"):
        return Begin(word)
    if not scan.goes_on("("):
        return Word(word)
    if word not in READ_BY_SORT:
        raise NoAsking("no sort of askings has this name")
    read_sort = READ_BY_SORT[word]
    asking = read_sort(scan)
    scan.must_go_on(")")
    return asking


def read_asking(text):
    """The asking that a text writes."""
    check_brackets(text)
    scan = Scan(text)
    asking = read_one(scan)
    if not scan.is_over():
        raise NoAsking(f"there is something behind the whole asking, at sign {scan.at}")
    return asking


def written_in_brackets(told):
    """What is written between the brackets of an asking that is told so."""
    sort = told[0]
    if sort == "row":
        return " ".join(told[1])
    if sort == "near":
        return f"{told[1]} {told[2]} {told[3]}"
    if sort == "in":
        return f"{PART_NAMES[told[1]]} {written(told[2])}"
    if sort == "by":
        return f"{told[1]} {written(told[2])}"
    several = told[1] if sort in ("all", "any") else told[1:]
    return "; ".join([written(one) for one in several])


def written(told):
    """How an asking that is told so is written."""
    sort = told[0]
    if sort == "never":
        return "-"
    if sort == "word":
        return told[1]
    if sort == "begin":
        return told[1] + "*"
    return f"{sort}({written_in_brackets(told)})"


def show_asking(asking):
    """An asking as it is written."""
    return written(asking.told())
