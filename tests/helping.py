"""What several files of tests need: the signs, and a look at refusals."""

import unittest

from safegaps.errors import NoPage

ALL_SIGNS = ["\n"] + [chr(number) for number in range(32, 127) if number != 37]
ALL_PLAIN = [sign for sign in ALL_SIGNS if sign.isalnum() or sign in "-._"]
EVERY_SIGN = "".join(ALL_SIGNS)
PAGE = {"&": "&a;", "<": "&l;", ">": "&g;", '"': "&q;"}
SCRIPT = {"'": "^q", "^": "^c", "<": "^l", "\n": "^n"}


def wave(sign):
    return f"~{ord(sign):02x}"


def page_sign(sign):
    return PAGE.get(sign, sign)


def address_sign(sign):
    return sign if sign in ALL_PLAIN else wave(sign)


def script_sign(sign):
    return SCRIPT.get(sign, sign)


def for_page(text):
    return "".join(page_sign(sign) for sign in text)


def for_address(text):
    return "".join(address_sign(sign) for sign in text)


def for_script(text):
    return "".join(script_sign(sign) for sign in text)


def written_address(address):
    """The address as point 10 writes it, told here a second time so that the program can be held against it."""
    scheme, segments, pairs = address
    text = f"{scheme}:" if scheme is not None else ""
    text += "/".join(for_address(segment) for segment in segments)
    for count, (key, value) in enumerate(pairs):
        text += (";" if count else "?") + for_address(key)
        if value is not None:
            text += "=" + for_address(value)
    return text


def written_script(script):
    """The script as point 11 writes it."""
    text = ""
    for name, atoms in script:
        told = [words if kind == "num" else f"'{for_script(words)}'" for kind, words in atoms]
        text += f"{name}={'+'.join(told)};"
    return text


def first_barred(text, whole, endings):
    """None where the text matches whole; else the at of its refusal.

    endings: texts of which one makes a whole text out of each beginning of one.
    """
    for at in range(len(text)):
        if not any(whole.fullmatch(text[:at + 1] + ending) for ending in endings):
            return at
    return None if whole.fullmatch(text) else len(text)


class Refusing(unittest.TestCase):
    def assert_refused(self, read, text, at):
        with self.assertRaises(NoPage, msg=repr(text)) as caught:
            read(text)
        self.assertEqual(caught.exception.at, at, repr(text))
        self.assertIs(caught.exception.at.__class__, int)
