"""Addresses, written and read back (point 10)."""

import itertools
import re
import unittest

from safegaps.addresses import read_address, show_address
from safegaps.signs import is_text
from tests.helping import ALL_PLAIN, ALL_SIGNS, EVERY_SIGN, Refusing, first_barred, wave, written_address

SMALL = "abcdefghijklmnopqrstuvwxyz"
WAVE = r"~(?:0a|2[0-46-9a-f]|[3-6][0-9a-f]|7[0-9a-e])"
PART = rf"(?:[A-Za-z0-9._-]|{WAVE})*"
PAIR = rf"{PART}(?:={PART})?"
ADDRESS = re.compile(rf"(?:[a-z]+:)?{PART}(?:/{PART})*(?:\?{PAIR}(?:;{PAIR})*)?")
ENDINGS = ("", "0", "a", "20")

# An address and how it is written.
TOLD = (
    ((None, ("",), ()), ""),
    ((None, ("a",), ()), "a"),
    ((None, ("", ""), ()), "/"),
    ((None, ("", "a", "", "b", ""), ()), "/a//b/"),
    (("http", ("",), ()), "http:"),
    (("a", ("b",), ()), "a:b"),
    (("http", ("", "", "a.b", "c_d-E"), ()), "http://a.b/c_d-E"),
    (("abcdefghijklmnop", ("x",), ()), "abcdefghijklmnop:x"),
    ((None, ("a:b",), ()), "a~3ab"),
    ((None, (":",), ()), "~3a"),
    (("a", ("b:c", "d:"), ()), "a:b~3ac/d~3a"),
    ((None, ("",), (("", None),)), "?"),
    ((None, ("",), (("", ""),)), "?="),
    ((None, ("",), (("", None), ("", None))), "?;"),
    ((None, ("a",), (("k", "v"),)), "a?k=v"),
    ((None, ("a",), (("k", None),)), "a?k"),
    ((None, ("a",), (("k", ""),)), "a?k="),
    ((None, ("a",), (("", "v"),)), "a?=v"),
    (("x", ("a", "b"), (("k", "v"), ("l", None), ("m", ""), ("k", "w"))), "x:a/b?k=v;l;m=;k=w"),
    ((None, ("a/b?c;d=e",), (("f/g?h;i=j", "k/l?m;n=o"),)), "a~2fb~3fc~3bd~3de?f~2fg~3fh~3bi~3dj=k~2fl~3fm~3bn~3do"),
    ((None, (" \n~",), (("\"", "&<>"),)), "~20~0a~7e?~22=~26~3c~3e"),
    (("to", ("A",), (("~20", "~0a"),)), "to:A?~7e20=~7e0a"),
)

# For each mode a text that leads to it from begin, and the signs that may stand there, none of them the quote.
MODES = (
    ("begin", ("",), "".join(ALL_PLAIN) + "/?~"),
    ("letters", ("a", "zyx", "abcdefghijk"), "".join(ALL_PLAIN) + "/:?~"),
    ("path", ("A", "a1", "a:", "a:b", "/", "/a", "a/b", "~61", "a~62", "a:~20"), "".join(ALL_PLAIN) + "/?~"),
    ("key", ("?", "a?", "a:b/c?d", "?;", "?a=b;", "?~61"), "".join(ALL_PLAIN) + ";=~"),
    ("val", ("?=", "a?b=c", "?a;b=", "?a=~61"), "".join(ALL_PLAIN) + ";~"),
    ("wave", ("~", "a~", "a:~", "/~", "?~", "?a~", "?=~", "?a=b~"), "0234567"),
    ("half 0", ("~0", "a:b~0", "?~0", "?=~0"), "a"),
    ("half 2", ("~2", "a:b~2", "?~2", "?=~2"), "012346789abcdef"),
    ("half 3", ("~3", "a:b~3", "?~3", "?=~3"), "0123456789abcdef"),
    ("half 6", ("~6", "a:b~6", "?~6", "?=~6"), "0123456789abcdef"),
    ("half 7", ("~7", "a:b~7", "?~7", "?=~7"), "0123456789abcde"),
)


class WrittenTest(unittest.TestCase):
    def check(self, address):
        text = written_address(address)
        self.assertEqual(show_address(address), text)
        self.assertEqual(read_address(text), address)

    def test_as_the_point_writes_them(self):
        for address, text in TOLD:
            self.assertEqual(show_address(address), text)
            self.assertEqual(read_address(text), address, text)

    def test_every_sign_in_each_part(self):
        for sign in ALL_SIGNS:
            for text in (sign, sign + sign, "a" + sign, sign + "a", "A" + sign + "9"):
                for scheme in (None, "ab"):
                    self.check((scheme, (text,), ()))
                    self.check((scheme, ("", text), ()))
                    self.check((scheme, (text, "x", text), ()))
                    self.check((scheme, ("x",), ((text, None),)))
                    self.check((scheme, ("x",), (("k", text), (text, ""))))
                    self.check((scheme, (text, text), ((text, text), (text, None), (text, text))))

    def test_every_letter_in_a_scheme(self):
        for letter in SMALL:
            for scheme in (letter, "a" + letter, letter * 9):
                self.check((scheme, ("",), ()))
                self.check((scheme, ("a", "b"), (("k", "v"),)))

    def test_parts_of_all_shapes_together(self):
        schemes = (None, "a", "http")
        texts = ("", "a", ":", "b/c")
        segments = [made for length in (1, 2, 3) for made in itertools.product(texts, repeat=length)]
        pair = [(key, value) for key in ("", "k", "=") for value in (None, "", "v", ";=?")]
        pairs = [made for length in (0, 1, 2) for made in itertools.product(pair, repeat=length)]
        for count, (scheme, path, query) in enumerate(itertools.product(schemes, segments, pairs)):
            if count % 7 == 0:
                self.check((scheme, path, query))

    def test_what_is_written_is_a_text_of_few_signs(self):
        text = show_address(("a", (EVERY_SIGN, EVERY_SIGN), ((EVERY_SIGN, EVERY_SIGN),)))
        self.assertTrue(is_text(text))
        self.assertEqual(set(text) - set(ALL_PLAIN), set(":/?=~"))

    def test_many_and_long_parts(self):
        self.check(("a" * 4000, ("",), ()))
        self.check((None, (EVERY_SIGN * 14,), ()))
        self.check((None, ("",) * 4001, ()))
        self.check(("a", ("b",) * 2000, ()))
        self.check((None, (" ",) * 1000, ()))
        self.check((None, ("",), (("", None),) * 4000))
        self.check((None, ("",), (("", ""),) * 2000))
        self.check((None, ("",), tuple((f"k{number}", f" {number}") for number in range(300))))

    def test_kinds_of_what_is_told(self):
        scheme, segments, pairs = read_address("a:b/c?d=e;f")
        self.assertIs(segments.__class__, tuple)
        self.assertIs(pairs.__class__, tuple)
        self.assertEqual([pair.__class__ for pair in pairs], [tuple, tuple])
        self.assertIsNone(read_address("b")[0])
        self.assertIsNone(pairs[1][1])


class ReadTest(Refusing):
    def test_plain_signs_by_waves(self):
        for sign in ALL_SIGNS:
            told = wave(sign)
            self.assertEqual(read_address(told), (None, (sign,), ()))
            self.assertEqual(read_address(f"a:{told}/x{told}?{told}=y{told};{told}"),
                             ("a", (sign, "x" + sign), ((sign, "y" + sign), (sign, None))))
        self.assertEqual(read_address("~61~62/c"), (None, ("ab", "c"), ()))
        self.assertEqual(show_address(read_address("~61b")), "ab")

    def test_letters_by_waves_make_no_scheme(self):
        self.assert_refused(read_address, "~61:b", 3)
        self.assert_refused(read_address, "a~62:c", 4)

    def test_every_sign_at_every_mode(self):
        for mode, heads, signs in MODES:
            for head in heads:
                for sign in ALL_SIGNS:
                    if sign in signs:
                        self.assertNotEqual(first_barred(head + sign, ADDRESS, ENDINGS), len(head))
                        self.check_any(head + sign)
                    else:
                        self.assert_refused(read_address, head + sign, len(head))
                        self.assert_refused(read_address, head + sign + "20", len(head))
                        self.assert_refused(read_address, head + sign + "\"", len(head))

    def test_a_quote(self):
        for address, text in TOLD:
            for cut in range(len(text) + 1):
                self.assert_refused(read_address, text[:cut] + "\"", cut)
                self.assert_refused(read_address, text[:cut] + "\"" + text[cut:], cut)
                self.assert_refused(read_address, text[:cut] + "\" to=\"", cut)
        self.assert_refused(read_address, "\">", 0)

    def test_a_second_colon(self):
        for text, at in (("a:b:", 3), ("a:b:c", 3), ("a::", 2), ("a:/b:c", 4), ("a:b/:", 4), ("http:a~3a:", 9)):
            self.assert_refused(read_address, text, at)

    def test_a_colon_that_ends_no_scheme(self):
        for text, at in ((":", 0), (":a", 0), ("A:", 1), ("a1:", 2), ("/a:b", 2), ("a/b:c", 3), ("a?b:c", 3),
                         ("a?b=c:", 5), ("a-b:", 3), ("aB:", 2)):
            self.assert_refused(read_address, text, at)

    def test_ends_within_a_writing(self):
        for head in ("", "a", "ab:", "ab:c", "/", "a/b", "?", "a?b", "?a=", "?a=b", "?a;", "~20"):
            self.assert_refused(read_address, head + "~", len(head) + 1)
            for first in "0234567":
                self.assert_refused(read_address, head + "~" + first, len(head) + 2)

    def test_the_first_of_several_is_told(self):
        self.assert_refused(read_address, "a b c", 1)
        self.assert_refused(read_address, "a/~1<", 3)
        self.assert_refused(read_address, "a?b?c?", 3)
        self.assert_refused(read_address, "a?b=c=d=", 5)
        self.assert_refused(read_address, "x" * 3999 + " ", 3999)

    def test_all_short_texts(self):
        for length in range(5):
            for signs in itertools.product("aA2:/?;=~\" ", repeat=length):
                self.check_any("".join(signs))

    def test_all_short_texts_behind_others(self):
        for head in ("a:b", "?a", "?a=", "b~", "?~", "?=~2"):
            for signs in itertools.product("af05:/?;=~", repeat=3):
                self.check_any(head + "".join(signs))

    def check_any(self, text):
        at = first_barred(text, ADDRESS, ENDINGS)
        if at is not None:
            self.assert_refused(read_address, text, at)
            return
        address = read_address(text)
        # Waves for plain signs are the one thing in which a text may differ from how its address is written.
        plain = re.sub("~[0-9a-f]{2}", lambda found: self.unwaved(found.group()), text)
        self.assertEqual(written_address(address), plain)
        self.assertEqual(read_address(show_address(address)), address)

    def unwaved(self, told):
        sign = chr(int(told[1:], 16))
        return sign if sign in ALL_PLAIN else told


if __name__ == "__main__":
    unittest.main()
