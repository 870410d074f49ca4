"""What several files of tests need: signs, odd things, writings told a second time, and a look at refusals."""

import random
import unittest

from safegaps.errors import NoPage

ALL_SIGNS = ["\n"] + [chr(number) for number in range(32, 127) if number != 37]
ALL_PLAIN = [sign for sign in ALL_SIGNS if sign.isalnum() or sign in "-._"]
EVERY_SIGN = "".join(ALL_SIGNS)
PAGE = {"&": "&a;", "<": "&l;", ">": "&g;", '"': "&q;"}
SCRIPT = {"'": "^q", "^": "^c", "<": "^l", "\n": "^n"}
NO_SIGNS = ("\t", "%", "\r", "\x00", "\x1f", "\x7f", "\x80", "\xe9", "\u2028", "\ud800", "\U0001f600")


class Odd:
    """A thing that can neither be compared nor hashed nor shown."""

    __hash__ = None

    def __eq__(self, other):
        raise RuntimeError

    def __repr__(self):
        raise RuntimeError


OTHERS = (
    None, True, False, 0, 1, -1, 10 ** 5000, 2.5, float("nan"), "", "a", "text", b"", b"a", [], {}, set(), frozenset(),
    object(), Odd(), str, tuple, len, range(3), [("text", "a")], [("gap", "a"), ("gap", "a")], {"text": "a"}, {"a": ()},
    {("text", "a")}, bytearray(b"a"), iter(()), ValueError("a"), ["text", "a"],
)


def wave(sign):
    return f"~{ord(sign):02x}"


def page_sign(sign):
    return PAGE.get(sign, sign)


def address_sign(sign):
    return sign if sign in ALL_PLAIN else wave(sign)


def script_sign(sign):
    return SCRIPT.get(sign, sign)


def for_page(text):
    return "".join(page_sign(sign) for sign in text)


def for_address(text):
    return "".join(address_sign(sign) for sign in text)


def for_script(text):
    return "".join(script_sign(sign) for sign in text)


def written_address(address):
    """The address as point 10 writes it, told here a second time so that the program can be held against it."""
    scheme, segments, pairs = address
    text = f"{scheme}:" if scheme is not None else ""
    text += "/".join(for_address(segment) for segment in segments)
    for count, (key, value) in enumerate(pairs):
        text += (";" if count else "?") + for_address(key)
        if value is not None:
            text += "=" + for_address(value)
    return text


def written_script(script):
    """The script as point 11 writes it."""
    text = ""
    for name, atoms in script:
        told = [words if kind == "num" else f"'{for_script(words)}'" for kind, words in atoms]
        text += f"{name}={'+'.join(told)};"
    return text


def first_barred(text, whole, endings):
    """None where the text matches whole; else the at of its refusal.

    endings: texts of which one makes a whole text out of each beginning of one.
    """
    for at in range(len(text)):
        if not any(whole.fullmatch(text[:at + 1] + ending) for ending in endings):
            return at
    return None if whole.fullmatch(text) else len(text)


def plainly_joined(form):
    """The form joined as point 15 tells, one step after another."""
    nodes = []
    for node in form:
        if node[0] == "text" and nodes and nodes[-1][0] == "text":
            nodes[-1] = ("text", nodes[-1][1] + node[1])
        elif node[0] in ("if", "each"):
            nodes.append(node[:2] + tuple(plainly_joined(inner) for inner in node[2:]))
        else:
            nodes.append(node)
        if nodes[-1] == ("text", ""):
            nodes.pop()
    return tuple(nodes)


class FormMaker:
    """Makes forms that are let by, by chance, the same ones in every run.

    Gaps are called a to e, choices p to r, eachs l to n. All but element, attr, address and row make nodes that end
    with the surroundings with which they begin: those in text, behind a value, and so on, as they are called.
    """

    def __init__(self, seed):
        self.chance = random.Random(seed)

    def form(self, depth=3):
        return tuple(self.content(depth) + self.element(depth) + self.content(depth))

    def words(self):
        length = self.chance.choice((0, 1, 1, 2, 4))
        return "".join(self.chance.choice("ab<>\"&'^~/{}\n" + EVERY_SIGN) for count in range(length))

    def gap(self):
        return ("gap", self.chance.choice("abcde"))

    def some(self, make, depth):
        """None to three parts that make makes, some of them within choices and eachs."""
        nodes = []
        for count in range(self.chance.choice((0, 1, 1, 2, 3))):
            sort = self.chance.random()
            if depth > 0 and sort < 0.15:
                nodes.append(("if", self.chance.choice("pqr"), tuple(self.some(make, depth - 1)),
                              tuple(self.some(make, depth - 1))))
            elif depth > 0 and sort < 0.3:
                nodes.append(("each", self.chance.choice("lmn"), tuple(self.some(make, depth - 1))))
            else:
                nodes.extend(make(depth - 1))
        return nodes

    def text_or_gap(self, write):
        return [("text", write(self.words()))] if self.chance.random() < 0.5 else [self.gap()]

    def content(self, depth):
        return self.some(self.content_part, depth)

    def content_part(self, depth):
        if depth > 0 and self.chance.random() < 0.5:
            return self.element(depth)
        return self.text_or_gap(for_page)

    def element(self, depth):
        name = self.chance.choice(("p", "b", "to", "code", "code", "abcdefgh"))
        begin = self.begin(name, depth)
        if self.chance.random() < 0.2:
            begin = [("if", self.chance.choice("pqr"), tuple(begin), tuple(self.begin(name, depth)))]
        inside = self.some(self.row, depth) if name == "code" else self.content(depth)
        return begin + inside + [("text", f"</{name}>")]

    def begin(self, name, depth):
        nodes = [("text", f"<{name}")]
        if self.chance.random() < 0.7:
            nodes += self.attr(depth) + self.some(self.attr, depth - 1)
        return nodes + [("text", ">")]

    def attr(self, depth):
        name = self.chance.choice(("a", "to", "from", "title"))
        value = self.address(depth) if name in ("to", "from") else self.value(depth)
        return [("text", f' {name}="')] + value + [("text", '"')]

    def value(self, depth):
        return self.some(lambda depth: self.text_or_gap(for_page), depth)

    def address(self, depth):
        nodes = self.chance.choice(([], [("text", "ab")], [("text", "x"), self.gap()], [("text", "ab:")], [("text", "/")],
                                    [self.gap()], [("text", "A")], [("text", "~3c")], [("text", "ab/")]))
        if nodes and nodes != [("text", "ab")]:
            nodes = nodes + self.some(self.path_part, depth)
        if self.chance.random() < 0.5:
            nodes = nodes + [("text", "?")] + self.some(self.pair, depth)
            if self.chance.random() < 0.5:
                nodes = nodes + [("text", "=")] + self.val(depth)
        return nodes

    def path_part(self, depth):
        return self.chance.choice(([("text", "/")], self.text_or_gap(for_address)))

    def pair(self, depth):
        if self.chance.random() < 0.5:
            return self.chance.choice(([("text", ";")], self.text_or_gap(for_address)))
        return self.text_or_gap(for_address) + [("text", "=")] + self.val(depth) + [("text", ";")]

    def val(self, depth):
        return self.some(lambda depth: self.text_or_gap(for_address), depth)

    def row(self, depth):
        name = self.chance.choice(("a", "code", "abcdefgh"))
        more = self.some(lambda depth: [("text", "+")] + self.atom(depth), depth)
        return [("text", f"{name}=")] + self.atom(depth) + more + [("text", ";")]

    def atom(self, depth):
        """Atoms of which the last one is quoted or a gap."""
        sort = self.chance.random()
        if sort < 0.3:
            return [("text", f"{self.chance.randrange(1000)}+")] + self.atom(depth)
        if sort < 0.6:
            return [self.gap()]
        return [("text", "'")] + self.some(lambda depth: self.text_or_gap(for_script), depth) + [("text", "'")]


class Refusing(unittest.TestCase):
    def assert_refused(self, read, text, at):
        with self.assertRaises(NoPage, msg=repr(text)) as caught:
            read(text)
        self.assertEqual(caught.exception.at, at, repr(text))
        self.assertIs(caught.exception.at.__class__, int)
