"""The surroundings, row by row, whole texts, and gaps (points 7, 8, 9)."""

import unittest

from safegaps.signs import address_written, page_written, script_written
from safegaps.states import START, behind_gap, gap_kind, go_on, go_over

ALL_SIGNS = ["\n"] + [chr(number) for number in range(32, 127) if number != 37]
SMALL = "abcdefghijklmnopqrstuvwxyz"
LARGE = SMALL.upper()
FIGURES = "0123456789"
PLAIN = SMALL + LARGE + FIGURES + "-._"
NOT_SMALL = LARGE + FIGURES + "-._"
PAGE_SIGNS = "".join(sign for sign in ALL_SIGNS if sign not in '<>"&')
SCRIPT_SIGNS = "".join(sign for sign in ALL_SIGNS if sign not in "'^<\n")
TAGS = ((), ("p",), ("a", "abcdefgh"), ("p", "p", "p"), tuple("abcdefghijklmnopqrstuvwxyzabcd"))
NAMES = ("p", "ab", "abcdefg", "abcdefgh", "code", "codes", "cod", "to", "from")
MODES = (
    "text amp semi open tag inner attr quote value behind begin letters path key val wave half shut row close name "
    "atom number quoted hat done"
).split()


class RowsTest(unittest.TestCase):
    """Every sign there is behind each mode; what a row does not name leads to None."""

    def check(self, state, *leads):
        """leads: tuples (signs, surroundings), or (signs, a function from the sign to them)."""
        told = {}
        for signs, there in leads:
            for sign in signs:
                self.assertNotIn(sign, told)
                told[sign] = there(sign) if callable(there) else there
        for sign in ALL_SIGNS:
            self.assertEqual(go_on(state, sign), told.get(sign), (state, sign))

    def test_start(self):
        self.assertEqual(START, ("text", (), ""))
        self.assertIsInstance(START, tuple)

    def test_text(self):
        for tags in TAGS:
            self.check(("text", tags, ""), ("<", ("open", tags, "")), ("&", ("amp", tags, "")),
                       (PAGE_SIGNS, ("text", tags, "")))

    def test_amp(self):
        for tags in TAGS:
            for memo in ("",) + NAMES:
                self.check(("amp", tags, memo), ("algq", ("semi", tags, memo)))

    def test_semi(self):
        for tags in TAGS:
            self.check(("semi", tags, ""), (";", ("text", tags, "")))
            for memo in NAMES:
                self.check(("semi", tags, memo), (";", ("value", tags, memo)))

    def test_open(self):
        for tags in TAGS:
            self.check(("open", tags, ""), ("/", ("shut", tags, "")), (SMALL, lambda sign: ("tag", tags, sign)))

    def ended(self, tags, name):
        return ("row" if name == "code" else "text", tags + (name,), "")

    def test_tag(self):
        for tags in TAGS:
            for memo in NAMES:
                letters = SMALL if len(memo) < 8 else ""
                self.check(("tag", tags, memo), (letters, lambda sign: ("tag", tags, memo + sign)),
                           (" ", ("inner", tags, memo)), (">", self.ended(tags, memo)))

    def test_inner(self):
        for tags in TAGS:
            for memo in NAMES:
                self.check(("inner", tags, memo), (SMALL, lambda sign: ("attr", tags, memo + " " + sign)))

    def test_attr(self):
        for tags in TAGS:
            for tag in NAMES:
                for name in NAMES:
                    memo = tag + " " + name
                    letters = SMALL if len(name) < 8 else ""
                    self.check(("attr", tags, memo), (letters, lambda sign: ("attr", tags, memo + sign)),
                               ("=", ("quote", tags, memo)))

    def test_quote(self):
        for tags in TAGS:
            for tag in NAMES:
                for name in NAMES + ("t", "too", "fro", "froms", "tofrom", "o"):
                    mode = "begin" if name in ("to", "from") else "value"
                    self.check(("quote", tags, tag + " " + name), ('"', (mode, tags, tag)))

    def test_value(self):
        for tags in TAGS:
            for memo in NAMES:
                self.check(("value", tags, memo), ('"', ("behind", tags, memo)), ("&", ("amp", tags, memo)),
                           (PAGE_SIGNS, ("value", tags, memo)))

    def test_behind(self):
        for tags in TAGS:
            for memo in NAMES:
                self.check(("behind", tags, memo), (" ", ("inner", tags, memo)), (">", self.ended(tags, memo)))

    def test_begin(self):
        for tags in TAGS:
            for memo in NAMES:
                self.check(("begin", tags, memo), (SMALL, ("letters", tags, memo)),
                           (NOT_SMALL + "/", ("path", tags, memo)), ("?", ("key", tags, memo)),
                           ('"', ("behind", tags, memo)), ("~", ("wave", tags, memo + " path")))

    def test_letters(self):
        for tags in TAGS:
            for memo in NAMES:
                self.check(("letters", tags, memo), (SMALL, ("letters", tags, memo)),
                           (NOT_SMALL + "/:", ("path", tags, memo)), ("?", ("key", tags, memo)),
                           ('"', ("behind", tags, memo)), ("~", ("wave", tags, memo + " path")))

    def test_path(self):
        for tags in TAGS:
            for memo in NAMES:
                self.check(("path", tags, memo), (PLAIN + "/", ("path", tags, memo)), ("?", ("key", tags, memo)),
                           ('"', ("behind", tags, memo)), ("~", ("wave", tags, memo + " path")))

    def test_key(self):
        for tags in TAGS:
            for memo in NAMES:
                self.check(("key", tags, memo), (PLAIN + ";", ("key", tags, memo)), ("=", ("val", tags, memo)),
                           ('"', ("behind", tags, memo)), ("~", ("wave", tags, memo + " key")))

    def test_val(self):
        for tags in TAGS:
            for memo in NAMES:
                self.check(("val", tags, memo), (PLAIN, ("val", tags, memo)), (";", ("key", tags, memo)),
                           ('"', ("behind", tags, memo)), ("~", ("wave", tags, memo + " val")))

    def test_wave(self):
        for tags in TAGS:
            for tag in NAMES:
                for mode in ("path", "key", "val"):
                    memo = tag + " " + mode
                    self.check(("wave", tags, memo), ("0234567", lambda sign: ("half", tags, memo + " " + sign)))

    def test_half(self):
        seconds = {"0": "a", "2": "012346789abcdef", "7": "0123456789abcde"}
        for tags in TAGS:
            for tag in NAMES:
                for mode in ("path", "key", "val"):
                    for first in "0234567":
                        self.check(("half", tags, tag + " " + mode + " " + first),
                                   (seconds.get(first, "0123456789abcdef"), (mode, tags, tag)))

    def test_shut(self):
        for tags in TAGS:
            for memo in ("",) + NAMES:
                letters = SMALL if len(memo) < 8 else ""
                ends = ">" if tags and tags[-1] == memo else ""
                self.check(("shut", tags, memo), (letters, lambda sign: ("shut", tags, memo + sign)),
                           (ends, ("text", tags[:-1], "")))

    def test_shut_behind_tags_of_all_names(self):
        for name in NAMES:
            for memo in ("",) + NAMES:
                there = ("text", ("p", name)[:1], "") if memo == name else None
                self.assertEqual(go_on(("shut", ("p", name), memo), ">"), there)

    def test_row(self):
        for tags in TAGS:
            tags = tags + ("code",)
            self.check(("row", tags, ""), (SMALL, lambda sign: ("name", tags, sign)), ("<", ("close", tags, "")))

    def test_close(self):
        for tags in TAGS:
            tags = tags + ("code",)
            self.check(("close", tags, ""), ("/", ("shut", tags, "")))

    def test_name(self):
        for tags in TAGS:
            tags = tags + ("code",)
            for memo in NAMES:
                letters = SMALL if len(memo) < 8 else ""
                self.check(("name", tags, memo), (letters, lambda sign: ("name", tags, memo + sign)),
                           ("=", ("atom", tags, "")))

    def test_atom(self):
        for tags in TAGS:
            tags = tags + ("code",)
            self.check(("atom", tags, ""), (FIGURES, ("number", tags, "")), ("'", ("quoted", tags, "")))

    def test_number(self):
        for tags in TAGS:
            tags = tags + ("code",)
            self.check(("number", tags, ""), (FIGURES, ("number", tags, "")), ("+", ("atom", tags, "")),
                       (";", ("row", tags, "")))

    def test_quoted(self):
        for tags in TAGS:
            tags = tags + ("code",)
            self.check(("quoted", tags, ""), ("'", ("done", tags, "")), ("^", ("hat", tags, "")),
                       (SCRIPT_SIGNS, ("quoted", tags, "")))

    def test_hat(self):
        for tags in TAGS:
            tags = tags + ("code",)
            self.check(("hat", tags, ""), ("qcln", ("quoted", tags, "")))

    def test_done(self):
        for tags in TAGS:
            tags = tags + ("code",)
            self.check(("done", tags, ""), ("+", ("atom", tags, "")), (";", ("row", tags, "")))


WHOLE = (
    "",
    "plain text\nin two rows, with 'quotes' and ~ and ^ and {}",
    "a &a; b &l; c &g; d &q; e",
    "<p></p>",
    "<p>a<b>c</b>d</p>e",
    '<abcdefgh abcdefgh="x" b="" c="&a;&l;&g;&q; it\'s"></abcdefgh>',
    '<a to="" from="">x</a>',
    '<a to="http:/a/b?k=v;l;m=~20~0a" from="x.y">x</a>',
    '<a to="~41~7e?~3d=~3b"></a>',
    '<a to="/?;;=;a=" to="a/" too="x/"></a>',
    "<code></code>",
    "<p><code>a=1;b='x'+2+'^q^c^l^n';</code></p><code>abcdefgh='';</code>",
    '<code a="b" to="c">a=0;</code>x',
    "<a>" * 30 + "x" + "</a>" * 30,
)

# A text, its first sign that cannot stand, and the surroundings ahead of it.
BARRED = (
    (">", 0, ("text", (), "")),
    ('ab"', 2, ("text", (), "")),
    ("&x;", 1, ("amp", (), "")),
    ("&a ", 2, ("semi", (), "")),
    ("<P>", 1, ("open", (), "")),
    ("< p>", 1, ("open", (), "")),
    ("<p/>", 2, ("tag", (), "p")),
    ("<abcdefghi>", 9, ("tag", (), "abcdefgh")),
    ("<p\n>", 2, ("tag", (), "p")),
    ("<p  a", 3, ("inner", (), "p")),
    ("<p >", 3, ("inner", (), "p")),
    ("<p a>", 4, ("attr", (), "p a")),
    ("<p abcdefghi=", 11, ("attr", (), "p abcdefgh")),
    ("<p a='x'>", 5, ("quote", (), "p a")),
    ('<p a="x"b="', 8, ("behind", (), "p")),
    ('<p a="<', 6, ("value", (), "p")),
    ('<p to=":', 7, ("begin", (), "p")),
    ('<p to="a:b:', 10, ("path", (), "p")),
    ('<p to="aB:', 9, ("path", (), "p")),
    ('<p to="a b', 8, ("letters", (), "p")),
    ('<p to="a?b?', 10, ("key", (), "p")),
    ('<p to="a?b=c=', 12, ("val", (), "p")),
    ('<p to="a?b=c/', 12, ("val", (), "p")),
    ('<p to="&a;', 7, ("begin", (), "p")),
    ('<p to="~1', 8, ("wave", (), "p path")),
    ('<p to="a?~25', 11, ("half", (), "p key 2")),
    ('<p to="a?b=~7f', 13, ("half", (), "p val 7")),
    ("</p>", 3, ("shut", (), "p")),
    ("</>", 2, ("shut", (), "")),
    ("<p></>", 5, ("shut", ("p",), "")),
    ("<p></q>", 6, ("shut", ("p",), "q")),
    ("<p></pp>", 7, ("shut", ("p",), "pp")),
    ("<pp></p>", 7, ("shut", ("pp",), "p")),
    ("<p><q></p>", 9, ("shut", ("p", "q"), "p")),
    ("<p></p >", 6, ("shut", ("p",), "p")),
    ("<p></abcdefghi", 13, ("shut", ("p",), "abcdefgh")),
    ("<p></p></p>", 10, ("shut", (), "p")),
    ("<code> ", 6, ("row", ("code",), "")),
    ("<code><p>", 7, ("close", ("code",), "")),
    ("<code>abcdefghi", 14, ("name", ("code",), "abcdefgh")),
    ("<code>a1", 7, ("name", ("code",), "a")),
    ("<code>a=b", 8, ("atom", ("code",), "")),
    ("<code>a=;", 8, ("atom", ("code",), "")),
    ("<code>a=1'", 9, ("number", ("code",), "")),
    ("<code>a='\n", 9, ("quoted", ("code",), "")),
    ("<code>a='^x", 10, ("hat", ("code",), "")),
    ("<code>a='x'1", 11, ("done", ("code",), "")),
    ("<code>a=1;</p>", 13, ("shut", ("code",), "p")),
)


class GoOverTest(unittest.TestCase):
    def test_whole_pages_come_back_to_the_beginning(self):
        for page in WHOLE:
            self.assertEqual(go_over(START, page), (START, len(page)), page)

    def test_sign_by_sign(self):
        for text in WHOLE + tuple(text for text, at, state in BARRED):
            state = START
            count = 0
            for sign in text:
                ahead = go_on(state, sign)
                if ahead is None:
                    break
                state = ahead
                count += 1
            self.assertEqual(go_over(START, text), (state, count))

    def test_signs_that_cannot_stand(self):
        for text, at, state in BARRED:
            self.assertEqual(go_over(START, text), (state, at), text)
            self.assertIsNone(go_on(state, text[at]), text)
            self.assertEqual(go_over(START, text + "<p></p>"), (state, at), text)

    def test_the_text_of_no_signs(self):
        for text, at, state in BARRED:
            self.assertEqual(go_over(state, ""), (state, 0))
        self.assertEqual(go_over(START, ""), (START, 0))

    def test_a_text_in_two_parts(self):
        for text in WHOLE:
            for cut in range(len(text) + 1):
                state, count = go_over(START, text[:cut])
                self.assertEqual(count, cut)
                self.assertEqual(go_over(state, text[cut:]), (START, len(text) - cut))

    def test_a_text_with_a_barred_sign_in_two_parts(self):
        for text, at, there in BARRED:
            for cut in range(at + 1):
                state, count = go_over(START, text[:cut])
                self.assertEqual(count, cut)
                self.assertEqual(go_over(state, text[cut:]), (there, at - cut))

    def test_every_prefix_has_surroundings_of_their_kinds(self):
        for text in WHOLE:
            for cut in range(len(text) + 1):
                state = go_over(START, text[:cut])[0]
                self.assertIsInstance(state, tuple)
                self.assertEqual(len(state), 3)
                self.assertIn(state[0], MODES)
                self.assertIsInstance(state[1], tuple)
                self.assertIsInstance(state[2], str)

    def test_all_modes_are_come_to(self):
        there = {go_over(START, text[:cut])[0][0] for text in WHOLE for cut in range(len(text) + 1)}
        self.assertEqual(there, set(MODES))

    def test_many_open_tags(self):
        names = tuple("abcdefgh"[:at % 8 + 1] for at in range(300))
        begins = "".join(f"<{name}>" for name in names)
        state, count = go_over(START, begins)
        self.assertEqual((state, count), (("text", names, ""), len(begins)))
        ends = "".join(f"</{name}>" for name in reversed(names))
        self.assertEqual(go_over(state, ends), (START, len(ends)))
        self.assertEqual(go_over(state, ends[:5]), (("shut", names, names[-1][:3]), 5))
        self.assertEqual(go_over(state, "<code>"), (("row", names + ("code",), ""), 6))
        self.assertEqual(go_over(state, "<code></code>"), (state, 13))

    def test_code_within_other_tags_and_behind_attrs(self):
        self.assertEqual(go_over(START, "<p><code>")[0], ("row", ("p", "code"), ""))
        self.assertEqual(go_over(START, '<p><code a="b">')[0], ("row", ("p", "code"), ""))
        self.assertEqual(go_over(START, '<p><code to="b">')[0], ("row", ("p", "code"), ""))
        self.assertEqual(go_over(START, '<p code="b">')[0], ("text", ("p",), ""))
        self.assertEqual(go_over(START, "<p><code></code>")[0], ("text", ("p",), ""))

    def test_the_memo_of_wave_and_half(self):
        for text, mode in (("", "path"), ("ab", "path"), ("a:b/", "path"), ("?", "key"), ("?a=", "val"), ("?a=b", "val")):
            ahead = go_over(START, '<p><link from="' + text)[0]
            self.assertEqual(go_over(ahead, "~"), (("wave", ("p",), "link " + mode), 1))
            self.assertEqual(go_over(ahead, "~2"), (("half", ("p",), "link " + mode + " 2"), 2))
            self.assertEqual(go_over(ahead, "~20"), ((mode, ("p",), "link"), 3))

    def test_what_is_written_leads_back_to_where_it_stood(self):
        whole = "".join(ALL_SIGNS)
        for written, ahead in ((page_written, "<p>"), (page_written, '<p a="'), (address_written, '<p to="/'),
                               (address_written, '<p to="?'), (address_written, '<p to="?='),
                               (script_written, "<code>a='")):
            state = go_over(START, ahead)[0]
            told = written(whole)
            self.assertEqual(go_over(state, told), (state, len(told)))


class GapsTest(unittest.TestCase):
    GAPS = (
        ("text", "text", "text"),
        ("value", "value", "value"),
        ("begin", "path", "path"),
        ("letters", "path", "path"),
        ("path", "path", "path"),
        ("key", "pair", "key"),
        ("val", "pair", "val"),
        ("atom", "atom", "done"),
        ("quoted", "quoted", "quoted"),
    )

    def states(self):
        for text in WHOLE:
            for cut in range(len(text) + 1):
                yield go_over(START, text[:cut])[0]

    def test_each_mode_of_the_point(self):
        for mode, kind, behind in self.GAPS:
            for tags in TAGS:
                for memo in ("",) + NAMES:
                    self.assertEqual(gap_kind((mode, tags, memo)), kind)
                    self.assertEqual(behind_gap((mode, tags, memo)), (behind, tags, memo))

    def test_none_at_every_other_mode(self):
        others = [mode for mode in MODES if mode not in [gap[0] for gap in self.GAPS]]
        self.assertEqual(len(others), 17)
        for state in self.states():
            if state[0] in others:
                self.assertIsNone(gap_kind(state), state)
                self.assertIsNone(behind_gap(state), state)
        for mode in others:
            self.assertIsNone(gap_kind((mode, ("p",), "a")))
            self.assertIsNone(behind_gap((mode, ("p",), "a")))

    def test_in_pages(self):
        for ahead, kind, behind in (
            ("", "text", ("text", (), "")),
            ("<p>x", "text", ("text", ("p",), "")),
            ('<p a="', "value", ("value", (), "p")),
            ('<p to="', "path", ("path", (), "p")),
            ('<p from="ab', "path", ("path", (), "p")),
            ('<p to="ab:', "path", ("path", (), "p")),
            ('<p to="a?', "pair", ("key", (), "p")),
            ('<p to="a?b=', "pair", ("val", (), "p")),
            ("<code>a=", "atom", ("done", ("code",), "")),
            ("<code>a='", "quoted", ("quoted", ("code",), "")),
            ("<code>a=1+", "atom", ("done", ("code",), "")),
        ):
            state = go_over(START, ahead)[0]
            self.assertEqual(gap_kind(state), kind)
            self.assertEqual(behind_gap(state), behind)

    def test_nowhere_else_in_pages(self):
        for ahead in ("<", "</", "<p", "<p ", "<p a", "<p a=", '<p a=""', "&", "&a", '<p to="~', '<p to="~2', "<code>",
                      "<code>a", "<code>a=1", "<code>a='^", "<code>a=''", "<code><"):
            state = go_over(START, ahead)[0]
            self.assertIsNone(gap_kind(state), ahead)
            self.assertIsNone(behind_gap(state), ahead)


if __name__ == "__main__":
    unittest.main()
