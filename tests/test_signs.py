"""Texts, and the three writings with their readings (points 2, 4, 5, 6)."""

import itertools
import unittest

from safegaps.errors import NoPage
from safegaps.signs import (
    FIGURES, PLAIN, SIGNS, SMALL, address_read, address_written, is_text, page_read, page_written, script_read,
    script_written,
)
from tests.helping import ALL_PLAIN, ALL_SIGNS, Refusing, address_sign, page_sign, script_sign, wave

NO_SIGNS = ["\t", "%", "\r", "\x00", "\x0b", "\x1f", "\x7f", "\x80", "\xa0", "\xe9", "\u2028", "\ud800", "\U0001f600"]

WAYS = (
    (page_written, page_read, page_sign),
    (address_written, address_read, address_sign),
    (script_written, script_read, script_sign),
)


class TextTest(unittest.TestCase):
    def test_every_sign_is_a_text(self):
        for sign in ALL_SIGNS:
            self.assertIs(is_text(sign), True, repr(sign))

    def test_texts(self):
        for text in ("", " ", "a", "two\nrows\n", '<p to="a">&a;</p>', "".join(ALL_SIGNS), "x" * 4000):
            self.assertIs(is_text(text), True, repr(text))

    def test_of_all_others_none_is_a_sign(self):
        for number in list(range(0x3000)) + [0xD800, 0xFFFF, 0x10FFFF]:
            self.assertIs(is_text(chr(number)), chr(number) in ALL_SIGNS, number)

    def test_texts_with_other_signs(self):
        for sign in NO_SIGNS:
            for text in (sign, sign + "abc", "a" + sign + "b", "abc" + sign, "x" * 4000 + sign):
                self.assertIs(is_text(text), False, repr(text))

    def test_what_is_no_text(self):
        things = (
            0, 1, -1, 2.5, True, False, None, [], ["a"], ["a", "b"], (), ("a",), {}, {"a": "b"}, set(), {"a"}, b"",
            b"abc", bytearray(b"a"), object(), str, len, iter("abc"), range(3), NoPage(1), [[]], float("nan"),
        )
        for thing in things:
            self.assertIs(is_text(thing), False, repr(thing))

    def test_what_is_handed_in_stays(self):
        thing = ["a", ["b"]]
        is_text(thing)
        self.assertEqual(thing, ["a", ["b"]])

    def test_groups_of_signs(self):
        self.assertEqual(sorted(SIGNS), sorted(ALL_SIGNS))
        self.assertEqual(sorted(PLAIN), sorted(ALL_PLAIN))
        self.assertEqual(list(SMALL), [sign for sign in ALL_SIGNS if sign.islower()])
        self.assertEqual(list(FIGURES), [sign for sign in ALL_SIGNS if sign.isdigit()])


class WritingsTest(unittest.TestCase):
    def test_as_the_points_write_them(self):
        self.assertEqual(page_written('a&b<c>d"e'), "a&a;b&l;c&g;d&q;e")
        self.assertEqual(page_written("&a;"), "&a;a;")
        self.assertEqual(page_written("it's ~20 ^q\n"), "it's ~20 ^q\n")
        self.assertEqual(address_written("a b\nc"), "a~20b~0ac")
        self.assertEqual(address_written("az-AZ.09_"), "az-AZ.09_")
        self.assertEqual(address_written("~/?:;=&\"<{"), "~7e~2f~3f~3a~3b~3d~26~22~3c~7b")
        self.assertEqual(script_written("a'b^c<d\ne"), "a^qb^cc^ld^ne")
        self.assertEqual(script_written("^q"), "^cq")
        self.assertEqual(script_written('&a; "x" > y;'), '&a; "x" > y;')

    def test_the_text_of_no_signs(self):
        for written, read, sign_written in WAYS:
            self.assertEqual(written(""), "")
            self.assertEqual(read(""), "")

    def test_every_sign_alone(self):
        for written, read, sign_written in WAYS:
            for sign in ALL_SIGNS:
                self.assertEqual(written(sign), sign_written(sign))
                self.assertEqual(read(sign_written(sign)), sign)

    def test_every_two_signs(self):
        for written, read, sign_written in WAYS:
            for one, other in itertools.product(ALL_SIGNS, repeat=2):
                told = sign_written(one) + sign_written(other)
                self.assertEqual(written(one + other), told)

    def test_long_texts(self):
        whole = "".join(ALL_SIGNS)
        texts = [whole, whole[::-1], whole * 42, "&" * 4000, "'" * 4000, " " * 4000, "a;a" * 100]
        texts += [step * 3 + whole[at::7] for at, step in enumerate(ALL_SIGNS)]
        for written, read, sign_written in WAYS:
            for text in texts:
                told = written(text)
                self.assertEqual(told, "".join(sign_written(sign) for sign in text))
                self.assertEqual(read(told), text)

    def test_what_is_written_is_a_text(self):
        for written, read, sign_written in WAYS:
            self.assertTrue(is_text(written("".join(ALL_SIGNS))))

    def test_writing_a_writing_is_read_back_step_by_step(self):
        for written, read, sign_written in WAYS:
            text = "".join(ALL_SIGNS)
            self.assertEqual(read(read(written(written(text)))), text)

    def test_addresses_read_plain_signs_from_waves_too(self):
        for sign in ALL_SIGNS:
            self.assertEqual(address_read(wave(sign)), sign)
            self.assertEqual(address_read("a" + wave(sign) + "Z"), "a" + sign + "Z")
        self.assertEqual(address_read("~61~62c~2d"), "abc-")


class PageReadTest(Refusing):
    def test_signs_that_cannot_stand(self):
        for sign in '<>"':
            self.assert_refused(page_read, sign, 0)
            self.assert_refused(page_read, sign + "abc", 0)
            self.assert_refused(page_read, "abc" + sign + "de", 3)
            self.assert_refused(page_read, "abc" + sign, 3)
            self.assert_refused(page_read, "&a;&q;" + sign, 6)

    def test_writings_that_are_none(self):
        for sign in ALL_SIGNS:
            if sign not in "algq":
                self.assert_refused(page_read, "&" + sign, 1)
                self.assert_refused(page_read, "ab&" + sign + ";c", 3)
            if sign != ";":
                for letter in "algq":
                    self.assert_refused(page_read, "&" + letter + sign, 2)
                    self.assert_refused(page_read, "b&" + letter + sign + ";", 3)

    def test_ends_within_a_writing(self):
        self.assert_refused(page_read, "&", 1)
        self.assert_refused(page_read, "abc&", 4)
        for letter in "algq":
            self.assert_refused(page_read, "&" + letter, 2)
            self.assert_refused(page_read, "a&a;&" + letter, 6)

    def test_the_first_of_several_is_told(self):
        self.assert_refused(page_read, "a<b>c", 1)
        self.assert_refused(page_read, "&x<", 1)
        self.assert_refused(page_read, "&a;&A;<", 4)
        self.assert_refused(page_read, "&&a;", 1)

    def test_what_may_stand(self):
        self.assertEqual(page_read("a;l;&a;l;"), "a;l;&l;")
        self.assertEqual(page_read("&a;&l;&g;&q;"), '&<>"')


class AddressReadTest(Refusing):
    def test_signs_that_cannot_stand(self):
        for sign in ALL_SIGNS:
            if sign in ALL_PLAIN or sign == "~":
                continue
            self.assert_refused(address_read, sign, 0)
            self.assert_refused(address_read, "a" + sign + "b", 1)
            self.assert_refused(address_read, "ab~20" + sign, 5)

    def test_every_first_sign_behind_a_wave(self):
        for sign in ALL_SIGNS:
            at = 2 if sign in "0234567" else 1
            self.assert_refused(address_read, "~" + sign, at)
            self.assert_refused(address_read, "abc~" + sign, at + 3)
            if sign not in "0234567":
                self.assert_refused(address_read, "~" + sign + "0", 1)

    def test_every_second_sign_behind_a_wave(self):
        for first in "0234567":
            for second in ALL_SIGNS:
                number = int(first + second, 16) if second in "0123456789abcdef" else 0
                text = "~" + first + second
                if chr(number) in ALL_SIGNS:
                    self.assertEqual(address_read(text), chr(number))
                else:
                    self.assert_refused(address_read, text, 2)
                    self.assert_refused(address_read, "x" + text + "y", 3)

    def test_the_edges_that_the_point_names(self):
        self.assertEqual(address_read("~0a~20~7e~24~26"), "\n ~$&")
        for text, at in (("~25", 2), ("~7f", 2), ("~09", 2), ("~0b", 2), ("~0A", 2), ("~00", 2), ("~10", 1), ("~1a", 1),
                         ("~80", 1), ("~a0", 1), ("~ff", 1), ("~2F", 2), ("~~", 1), ("~2~", 2), ("~-1", 1)):
            self.assert_refused(address_read, text, at)

    def test_ends_within_a_writing(self):
        self.assert_refused(address_read, "~", 1)
        self.assert_refused(address_read, "~2", 2)
        self.assert_refused(address_read, "ab~20~", 6)
        self.assert_refused(address_read, "ab~20~7", 7)

    def test_the_first_of_several_is_told(self):
        self.assert_refused(address_read, "a b c", 1)
        self.assert_refused(address_read, "~20~8 ", 4)


class ScriptReadTest(Refusing):
    def test_signs_that_cannot_stand(self):
        for sign in "'<\n":
            self.assert_refused(script_read, sign, 0)
            self.assert_refused(script_read, sign + "abc", 0)
            self.assert_refused(script_read, "abc" + sign + "de", 3)
            self.assert_refused(script_read, "abc" + sign, 3)
            self.assert_refused(script_read, "^q^n" + sign, 4)

    def test_writings_that_are_none(self):
        for sign in ALL_SIGNS:
            if sign not in "qcln":
                self.assert_refused(script_read, "^" + sign, 1)
                self.assert_refused(script_read, "ab^" + sign + "c", 3)

    def test_ends_within_a_writing(self):
        self.assert_refused(script_read, "^", 1)
        self.assert_refused(script_read, "abc^", 4)
        self.assert_refused(script_read, "^c^", 3)

    def test_the_first_of_several_is_told(self):
        self.assert_refused(script_read, "a'b<c", 1)
        self.assert_refused(script_read, "^x'", 1)
        self.assert_refused(script_read, "^^q", 1)

    def test_what_may_stand(self):
        self.assertEqual(script_read('&a; "x" > ~20'), '&a; "x" > ~20')
        self.assertEqual(script_read("^q^c^l^nq"), "'^<\nq")


if __name__ == "__main__":
    unittest.main()
