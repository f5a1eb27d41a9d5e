"""Signs, and the sorts of texts that are made of them."""

# Given by its number, because the sign itself must not stand in a string here.
PERCENT = 37


def is_small_letter(sign):
    """Whether a sign is one of a to z."""
    return "a" <= sign <= "z"


def is_letter(sign):
    """Whether a sign is one of a to z or A to Z."""
    return is_small_letter(sign) or "A" <= sign <= "Z"


def is_figure(sign):
    """Whether a sign is one of 0 to 9."""
    return "0" <= sign <= "9"


def is_plain_sign(sign):
    """Whether plain words may have this sign."""
    return is_small_letter(sign) or is_figure(sign)


def is_sign(sign):
    """Whether texts may have this sign."""
    return " " <= sign <= "~" and ord(sign) != PERCENT


def are_small_letters(text, least, most):
    """Whether a text is made of least to most small letters."""
    return least <= len(text) <= most and all([is_small_letter(sign) for sign in text])


def is_plain_word(text):
    """Whether a text is made of one to twenty small letters and figures."""
    return 1 <= len(text) <= 20 and all([is_plain_sign(sign) for sign in text])


def is_name(thing):
    """Whether a thing of any kind is a name."""
    return isinstance(thing, str) and are_small_letters(thing, 1, 8)


def is_text(thing):
    """Whether a thing of any kind is a text of signs."""
    return isinstance(thing, str) and all([is_sign(sign) for sign in thing])


def are_three_texts(thing):
    """Whether a thing of any kind is a tuple of three texts of signs."""
    return isinstance(thing, tuple) and len(thing) == 3 and all([is_text(part) for part in thing])
