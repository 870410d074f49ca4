"""Scripts, written and read back (point 11)."""

import itertools
import re
import unittest

from safegaps.scripts import read_script, show_script
from safegaps.signs import is_text
from tests.helping import ALL_SIGNS, EVERY_SIGN, Refusing, first_barred, written_script

SMALL = "abcdefghijklmnopqrstuvwxyz"
FIGURES = "0123456789"
SCRIPT_SIGNS = "".join(sign for sign in ALL_SIGNS if sign not in "'^<\n")
ATOM = r"(?:[0-9]+|'(?:[^'^<\n]|\^[qcln])*')"
SCRIPT = re.compile(rf"(?:[a-z]{{1,8}}={ATOM}(?:\+{ATOM})*;)*")
ENDINGS = ("", ";", "0;", "=0;", "';", "q';")

# A script and how it is written.
TOLD = (
    ((), ""),
    ((("a", (("num", "1"),)),), "a=1;"),
    ((("a", (("text", ""),)),), "a='';"),
    ((("abcdefgh", (("text", "x"),)),), "abcdefgh='x';"),
    ((("code", (("num", "007"), ("text", "a b"), ("num", "0"))),), "code=007+'a b'+0;"),
    ((("a", (("num", "1"), ("num", "2"))), ("a", (("num", "3"),))), "a=1+2;a=3;"),
    ((("a", (("text", "it's"),)), ("b", (("text", "^<\n"),))), "a='it^qs';b='^c^l^n';"),
    ((("a", (("text", ";b=1;"), ("text", "+'+"))),), "a=';b=1;'+'+^q+';"),
    ((("a", (("text", "'"), ("text", ""), ("text", "''"))),), "a='^q'+''+'^q^q';"),
    ((("a", (("text", "</code>"),)),), "a='^l/code>';"),
    ((("a", (("text", "12"), ("num", "12"))),), "a='12'+12;"),
    ((("a", (("text", "^q"),)),), "a='^cq';"),
    ((("a", (("text", "&a;\"~20"),)),), "a='&a;\"~20';"),
)

# For each mode texts that lead to it from row, and the signs that may stand there.
MODES = (
    ("row", ("", "a=1;", "a='';", "a=1;b='x'+2;"), SMALL),
    ("name", ("a", "abcdefg", "a=1;b"), SMALL + "="),
    ("name of eight", ("abcdefgh", "a=1;abcdefgh"), "="),
    ("atom", ("a=", "abcdefgh=", "a=1+", "a='x'+", "a=1;b="), FIGURES + "'"),
    ("number", ("a=1", "a=12", "a=''+3"), FIGURES + "+;"),
    ("quoted", ("a='", "a='x", "a='^q", "a=1+'", "a='x'+'y"), SCRIPT_SIGNS + "'^"),
    ("hat", ("a='^", "a='x^", "a='^q^"), "qcln"),
    ("done", ("a=''", "a='x'", "a=1+'^n'"), "+;"),
)


class WrittenTest(unittest.TestCase):
    def check(self, script):
        text = written_script(script)
        self.assertEqual(show_script(script), text)
        self.assertEqual(read_script(text), script)

    def test_as_the_point_writes_them(self):
        for script, text in TOLD:
            self.assertEqual(show_script(script), text)
            self.assertEqual(read_script(text), script, text)

    def test_every_sign_in_texts(self):
        for sign in ALL_SIGNS:
            for text in (sign, sign + sign, "a" + sign, sign + "1", "'" + sign + "'"):
                atom = ("text", text)
                self.check((("a", (atom,)),))
                self.check((("a", (atom, ("num", "1"), atom)), ("b", (atom, atom))))

    def test_every_letter_and_figure(self):
        for letter in SMALL:
            for name in (letter, "a" + letter, letter * 8):
                self.check(((name, (("num", "1"),)),))
        for figure in FIGURES:
            for figures in (figure, figure * 2, "0" + figure, figure * 60):
                self.check((("a", (("num", figures),)),))

    def test_rows_of_all_shapes_together(self):
        atom = (("num", "0"), ("num", "42"), ("text", ""), ("text", "';+="), ("text", "7"))
        atoms = [made for length in (1, 2, 3) for made in itertools.product(atom, repeat=length)]
        rows = [(name, made) for name, made in zip(itertools.cycle(("a", "to", "abcdefgh")), atoms)]
        for row in rows:
            self.check((row,))
        for one, other in itertools.product(rows[::3], rows[::5]):
            self.check((one, other))
        self.check(tuple(rows))

    def test_what_is_written_is_a_text(self):
        text = show_script((("a", (("text", EVERY_SIGN),)),))
        self.assertTrue(is_text(text))
        self.assertNotIn("<", text)
        self.assertNotIn("\n", text)

    def test_many_and_long_rows(self):
        self.check((("a", (("num", "1"),)),) * 1000)
        self.check((("a", (("num", "1"),) * 1999),))
        self.check((("a", (("text", ""),) * 1332),))
        self.check((("a", (("num", "9" * 3997),)),))
        self.check((("a", (("text", EVERY_SIGN * 40),)),))
        self.check(tuple(("b", (("text", f"'{number}"), ("num", str(number)))) for number in range(250)))

    def test_kinds_of_what_is_told(self):
        script = read_script("a=1+'';")
        self.assertIs(script.__class__, tuple)
        self.assertIs(script[0].__class__, tuple)
        self.assertIs(script[0][1].__class__, tuple)
        self.assertEqual([atom.__class__ for atom in script[0][1]], [tuple, tuple])


class ReadTest(Refusing):
    def test_every_sign_at_every_mode(self):
        for mode, heads, signs in MODES:
            for head in heads:
                for sign in ALL_SIGNS:
                    if sign in signs:
                        self.assertNotEqual(first_barred(head + sign, SCRIPT, ENDINGS), len(head))
                        self.check_any(head + sign)
                    else:
                        self.assert_refused(read_script, head + sign, len(head))
                        self.assert_refused(read_script, head + sign + "=1;", len(head))

    def test_the_sign_that_would_end_the_code(self):
        for script, text in TOLD:
            self.assert_refused(read_script, text + "<", len(text))
            self.assert_refused(read_script, text + "</code>", len(text))
            self.assert_refused(read_script, text + "</code><code>", len(text))
            self.assert_refused(read_script, "<" + text, 0)

    def test_a_name_of_nine_letters(self):
        self.assert_refused(read_script, "abcdefghi=1;", 8)
        self.assert_refused(read_script, "a=1;abcdefghi=1;", 12)
        self.assertEqual(read_script("abcdefgh=1;"), (("abcdefgh", (("num", "1"),)),))

    def test_ends_too_early(self):
        for script, text in TOLD:
            for cut in range(len(text) + 1):
                if not SCRIPT.fullmatch(text[:cut]):
                    self.assert_refused(read_script, text[:cut], cut)
        for text in ("a", "a=", "a=1", "a=1+", "a='", "a='x", "a='^", "a='^q", "a=''", "a=1;b"):
            self.assert_refused(read_script, text, len(text))

    def test_the_first_of_several_is_told(self):
        self.assert_refused(read_script, "a=1;;b=2;;", 4)
        self.assert_refused(read_script, "a='\n\n';", 3)
        self.assert_refused(read_script, "a='^x<';", 4)
        self.assert_refused(read_script, "a=" + "1" * 3997 + "-", 3999)

    def test_all_short_texts(self):
        for length in range(5):
            for signs in itertools.product("aq1=+;'^< ", repeat=length):
                self.check_any("".join(signs))

    def test_all_short_texts_behind_others(self):
        for head in ("a=", "a=1", "a='", "a='^", "a=''", "a='b';"):
            for signs in itertools.product("q0=+;'^>\n", repeat=3):
                self.check_any(head + "".join(signs))

    def check_any(self, text):
        at = first_barred(text, SCRIPT, ENDINGS)
        if at is not None:
            self.assert_refused(read_script, text, at)
            return
        script = read_script(text)
        self.assertEqual(written_script(script), text)
        self.assertEqual(show_script(script), text)


if __name__ == "__main__":
    unittest.main()
