"""Signs and texts, and how a text is written for a page, an address and a script, and read back."""

from safegaps.errors import NoPage

# Written out whole, since there is no way here from a number to its sign.
SIGNS = "\n !\"#$&'()*+,-./0123456789:;<=>?@ABCDEFGHIJKLMNOPQRSTUVWXYZ[\\]^_`abcdefghijklmnopqrstuvwxyz{|}~"
SMALL = "abcdefghijklmnopqrstuvwxyz"
FIGURES = "0123456789"
PLAIN = "ABCDEFGHIJKLMNOPQRSTUVWXYZabcdefghijklmnopqrstuvwxyz0123456789-._"
SIXTEEN = "0123456789abcdef"

PAGE_WRITINGS = {"&": "&a;", "<": "&l;", ">": "&g;", "\"": "&q;"}
SCRIPT_WRITINGS = {"'": "^q", "^": "^c", "<": "^l", "\n": "^n"}


def is_text(thing):
    """Whether this, whatever it is, is a text of signs."""
    return isinstance(thing, str) and all([sign in SIGNS for sign in thing])


def is_page_sign(sign):
    """Whether this stands for itself in a page."""
    return sign in SIGNS and sign not in PAGE_WRITINGS


def is_script_sign(sign):
    """Whether this stands for itself between the quotes of a script."""
    return sign in SIGNS and sign not in SCRIPT_WRITINGS


def waved(sign):
    """The sign as a wave and its number with the base sixteen."""
    number = ord(sign)
    return "~" + SIXTEEN[number // 16] + SIXTEEN[number % 16]


def is_waved(first, second):
    """Whether a wave, first (one of the sixteen) and second write a sign."""
    if second not in SIXTEEN:
        return False
    number = SIXTEEN.index(first) * 16 + SIXTEEN.index(second)
    return any([ord(sign) == number for sign in SIGNS])


def page_written(text):
    """The text as it is written for a page."""
    return "".join([PAGE_WRITINGS.get(sign, sign) for sign in text])


def address_written(text):
    """The text as it is written for an address."""
    return "".join([sign if sign in PLAIN else waved(sign) for sign in text])


def script_written(text):
    """The text as it is written for a script."""
    return "".join([SCRIPT_WRITINGS.get(sign, sign) for sign in text])


def page_read(text):
    """The text that is so written for a page; refuses NoPage."""
    return read_back(text, [(PAGE_WRITINGS.get(sign, sign), sign) for sign in SIGNS])


def address_read(text):
    """The text that is so written for an address, plain signs perhaps by waves; refuses NoPage."""
    return read_back(text, [(sign, sign) for sign in PLAIN] + [(waved(sign), sign) for sign in SIGNS])


def script_read(text):
    """The text that is so written for a script; refuses NoPage."""
    return read_back(text, [(SCRIPT_WRITINGS.get(sign, sign), sign) for sign in SIGNS])


def read_back(text, writings):
    """The text that these writings, a list of tuples (writing, sign), write; refuses NoPage."""
    known = beginnings_of(writings)
    signs = []
    begun = ""
    for at, sign in enumerate(text):
        begun = begun + sign
        if begun not in known:
            raise NoPage(at)
        if known[begun] is not None:
            signs.append(known[begun])
            begun = ""
    if begun != "":
        raise NoPage(len(text))
    return "".join(signs)


def beginnings_of(writings):
    """The sign of each whole writing, and None for what only begins one."""
    # No writing begins another one, so no whole writing is taken for a mere beginning.
    known = {}
    for writing, sign in writings:
        for length in range(1, len(writing)):
            known[writing[:length]] = None
        known[writing] = sign
    return known
