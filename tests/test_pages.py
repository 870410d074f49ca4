"""Pages, written and read back (points 12, 13)."""

import random
import unittest

from safegaps.pages import read_page, show_page
from safegaps.signs import is_text
from safegaps.states import START, go_over
from tests.helping import ALL_SIGNS, EVERY_SIGN, Refusing, for_page, written_address, written_script
from tests.test_states import BARRED, WHOLE

SMALL = "abcdefghijklmnopqrstuvwxyz"
NOTHING = (("",), ())
HOME = (None, ("x",), ())


def of_text(text):
    return ((text,), ())


def of_tags(*tags):
    return (("",) * (len(tags) + 1), tags)


def nested(names, inmost):
    content = inmost
    for name in reversed(names):
        content = of_tags((name, (), content))
    return content


# A content and how it is written.
TOLD = (
    (NOTHING, ""),
    (of_text("a < b & \"c\" > d\n"), "a &l; b &a; &q;c&q; &g; d\n"),
    (of_tags(("p", (), NOTHING)), "<p></p>"),
    ((("a", "b"), (("p", (), of_text("c")),)), "a<p>c</p>b"),
    ((("a", "b", "c"), (("p", (), NOTHING), ("q", (), NOTHING))), "a<p></p>b<q></q>c"),
    ((("a", "", "c"), (("p", (), of_text("x")), ("p", (), of_text("y")))), "a<p>x</p><p>y</p>c"),
    (of_tags(("p", (), (("a", "d"), (("b", (), of_text("c")),)))), "<p>a<b>c</b>d</p>"),
    (of_tags(("p", (), of_tags(("p", (), of_tags(("p", (), NOTHING)))))), "<p><p><p></p></p></p>"),
    (of_tags(("abcdefgh", (("abcdefgh", "x"),), NOTHING)), '<abcdefgh abcdefgh="x"></abcdefgh>'),
    (of_tags(("p", (("a", ""), ("b", "c d=e >")), NOTHING)), '<p a="" b="c d=e &g;"></p>'),
    (of_tags(("p", (("a", "1"), ("a", "2"), ("a", "1")), NOTHING)), '<p a="1" a="2" a="1"></p>'),
    (of_tags(("a", (("to", HOME),), of_text("x"))), '<a to="x">x</a>'),
    (of_tags(("to", (("to", HOME), ("from", ("h", ("", "b"), (("k", None), ("l", "m n")))), ("to", HOME)), NOTHING)),
     '<to to="x" from="h:/b?k;l=m~20n" to="x"></to>'),
    (of_tags(("a", (("t", "x/"), ("too", "&"), ("fro", "?"), ("froms", "~")), NOTHING)),
     '<a t="x/" too="&a;" fro="?" froms="~"></a>'),
    (of_tags(("a", (("to", (None, ("",), ())), ("code", "a=1;")), NOTHING)), '<a to="" code="a=1;"></a>'),
    (of_tags(("code", (), ())), "<code></code>"),
    (of_tags(("code", (("a", "b"), ("to", HOME)), (("a", (("num", "1"), ("text", "x"))),))),
     '<code a="b" to="x">a=1+\'x\';</code>'),
    ((("a", "b"), (("p", (), (("c", "d"), (("code", (), (("a", (("text", "</code>"),)),)),))),)),
     "a<p>c<code>a='^l/code>';</code>d</p>b"),
    (of_tags(("code", (), (("a", (("text", ">\"&> b=\"c\">"),)),)), ("p", (), NOTHING)),
     "<code>a='>\"&> b=\"c\">';</code><p></p>"),
    (of_tags(("codes", (), NOTHING), ("cod", (), of_text("a=1;"))), "<codes></codes><cod>a=1;</cod>"),
    (of_tags(("p", (("a", "/b"),), of_text("/p"))), '<p a="/b">/p</p>'),
)


def written_content(content):
    """The content as point 13 writes it."""
    texts, tags = content
    text = for_page(texts[0])
    for (name, attrs, inside), behind in zip(tags, texts[1:], strict=True):
        text += f"<{name}"
        for attr, value in attrs:
            told = written_address(value) if attr in ("to", "from") else for_page(value)
            text += f' {attr}="{told}"'
        told = written_script(inside) if name == "code" else written_content(inside)
        text += f">{told}</{name}>{for_page(behind)}"
    return text


class Maker:
    """Makes contents by chance, the same ones in every run."""

    def __init__(self, seed):
        self.chance = random.Random(seed)

    def text(self):
        length = self.chance.choice((0, 0, 1, 2, 5))
        return "".join(self.chance.choice("ab <>\"&'^~/=;?\n" + EVERY_SIGN) for count in range(length))

    def name(self):
        if self.chance.random() < 0.4:
            return self.chance.choice(("code", "to", "from", "p", "if"))
        return "".join(self.chance.choice(SMALL) for count in range(self.chance.randint(1, 8)))

    def several(self, make, least, most):
        return tuple(make() for count in range(self.chance.randint(least, most)))

    def pair(self):
        return (self.text(), self.chance.choice((None, self.text())))

    def address(self):
        scheme = self.chance.choice((None, "a", "http"))
        return (scheme, self.several(self.text, 1, 3), self.several(self.pair, 0, 2))

    def attr(self):
        name = self.name()
        return (name, self.address() if name in ("to", "from") else self.text())

    def atom(self):
        if self.chance.random() < 0.5:
            return ("num", str(self.chance.randint(0, 999)))
        return ("text", self.text())

    def row(self):
        return (self.name(), self.several(self.atom, 1, 3))

    def content(self, depth):
        tags = self.several(lambda: self.tag(depth - 1), 0, 3 if depth else 0)
        return (tuple(self.text() for count in range(len(tags) + 1)), tags)

    def tag(self, depth):
        name = self.name()
        inside = self.several(self.row, 0, 3) if name == "code" else self.content(depth)
        return (name, self.several(self.attr, 0, 3), inside)


class WrittenTest(unittest.TestCase):
    def check(self, content):
        text = written_content(content)
        self.assertEqual(show_page(content), text)
        self.assertEqual(read_page(text), content)

    def test_as_the_points_write_them(self):
        for content, text in TOLD:
            self.assertEqual(written_content(content), text)
            self.assertEqual(show_page(content), text)
            self.assertEqual(read_page(text), content, text)

    def test_two_of_them_side_by_side_and_within_a_tag(self):
        for one, text in TOLD:
            self.check(of_tags(("p", (("a", text),), one)))
            for other, behind in TOLD:
                self.check(of_tags(("p", (), one), ("q", (), other)))
                texts = one[0][:-1] + (one[0][-1] + other[0][0],) + other[0][1:]
                self.assertEqual(read_page(text + behind), (texts, one[1] + other[1]))

    def test_every_sign_in_each_place(self):
        for sign in ALL_SIGNS:
            for text in (sign, sign + "a", "b" + sign + sign):
                self.check(of_text(text))
                self.check((("x", text, "y"), (("p", (), of_text(text)), ("q", (), NOTHING))))
                self.check(of_tags(("p", (("a", text), ("b", text)), NOTHING)))
                self.check(of_tags(("p", (("to", (None, (text,), ((text, text), (text, None)))),), NOTHING)))
                self.check(of_tags(("code", (), (("a", (("text", text), ("text", text))),))))

    def test_names_of_tags_and_attrs(self):
        names = list(SMALL) + ["ab", "abcdefgh", "zzzzzzzz", "if", "each", "text", "to", "from", "too", "codes"]
        for name in names:
            self.check(of_tags((name, (), of_text("x"))))
            self.check(of_tags(("p", ((name, HOME if name in ("to", "from") else "x"),), NOTHING)))

    def test_thirty_deep(self):
        names = ["abcdefgh"[:at % 8 + 1] for at in range(30)]
        self.check(nested(names, of_text("x")))
        self.check(nested(["p"] * 30, NOTHING))
        self.check(nested(["p"] * 29, of_tags(("code", (), (("a", (("num", "1"),)),)))))
        content = NOTHING
        for at in range(30):
            content = ((f"a{at}", f"b{at}", "c"), (("p", (("k", f"{at}"),), content), ("q", (), NOTHING)))
        self.check(content)

    def test_somewhat_deeper(self):
        self.check(nested(["p"] * 60, of_text("x")))

    def test_many_and_long_parts(self):
        self.check(of_tags(*[("a", (), NOTHING)] * 571))
        self.check(of_tags(*[("p", (), of_tags(("b", (), NOTHING)))] * 280))
        self.check(of_tags(("p", (("a", ""),) * 798, NOTHING)))
        self.check(of_tags(("p", (("to", HOME),) * 570, NOTHING)))
        self.check(of_tags(("code", (), (("a", (("num", "1"),)),) * 990)))
        self.check(of_text(EVERY_SIGN * 40))
        self.check(of_tags(("p", (("a", EVERY_SIGN * 39),), NOTHING)))

    def test_contents_made_by_chance(self):
        maker = Maker(12)
        for count in range(1500):
            self.check(maker.content(4))

    def test_what_is_written_is_a_text_that_leads_to_the_beginning(self):
        maker = Maker(13)
        for count in range(200):
            text = show_page(maker.content(3))
            self.assertTrue(is_text(text))
            self.assertEqual(go_over(START, text), (START, len(text)))

    def test_kinds_of_what_is_told(self):
        content = read_page('a<p k="v" to="x">b<code>a=1;</code></p>')
        kinds = []

        def look(thing):
            kinds.append(thing.__class__)
            if isinstance(thing, (tuple, list)):
                for part in thing:
                    look(part)
        look(content)
        self.assertEqual(set(kinds), {tuple, str, None.__class__})


class ReadTest(Refusing):
    def check_any(self, text):
        """The text is refused just where its signs do not lead to the beginning; else its content is so written."""
        state, count = go_over(START, text)
        if count < len(text) or state != START:
            self.assert_refused(read_page, text, count)
            return True
        content = read_page(text)
        self.assertEqual(read_page(written_content(content)), content)
        self.assertEqual(show_page(content), written_content(content))
        if "~" not in text:
            self.assertEqual(show_page(content), text)
        return False

    def test_whole_pages(self):
        for text in WHOLE:
            self.assertFalse(self.check_any(text), text)

    def test_plain_signs_by_waves(self):
        content = of_tags(("a", (("to", (None, ("A~",), (("=", "a"),))),), NOTHING))
        self.assertEqual(read_page('<a to="~41~7e?~3d=~61"></a>'), content)

    def test_signs_that_cannot_stand(self):
        for text, at, state in BARRED:
            self.assert_refused(read_page, text, at)
            self.assert_refused(read_page, text + "</p>", at)
            self.assert_refused(read_page, "x<q>" + text + "</q>", at + 4)

    def test_at_the_beginning_within_and_at_the_end(self):
        for sign in "\">":
            self.assert_refused(read_page, sign, 0)
            self.assert_refused(read_page, sign + "<p></p>", 0)
            self.assert_refused(read_page, "<p>a" + sign + "</p>", 4)
            self.assert_refused(read_page, "<p></p>" + sign, 7)
            self.assert_refused(read_page, "<p>a</p>b" + sign, 9)

    def test_an_end_with_another_name(self):
        for text, at in (("<p></q>", 6), ("<p></pp>", 7), ("<pp></p>", 7), ("<p></>", 5), ("<p><q></p></q>", 9),
                         ("<p><q></q></q>", 13), ("<code></p>", 9), ("<code>a=1;</cod>", 15), ("</p>", 3),
                         ("<p></p></p>", 10), ('<p q="a"></q>', 12)):
            self.assert_refused(read_page, text, at)

    def test_a_tag_that_is_not_ended(self):
        for text in ("<p>", "<p>a", "<p><q></q>", "<p><q>", '<p a="b">', "<code>", "<code>a=1;", "x<p>" * 30,
                     "<p></p><p>", "<p></p", "<p></", "<p><", "<code><", "<code></code"):
            self.assert_refused(read_page, text, len(text))

    def test_ends_within_something(self):
        for text in ("&", "&a", "a&a;&q", "<", "<p", "<p ", "<p a", "<p a=", '<p a="', '<p a="b', '<p a="&', '<p a="&l',
                     '<p a="b"', '<p a="b" ', '<p to="', '<p to="a', '<p to="a:', '<p to="~', '<p to="~2', '<p to="?',
                     '<p to="?a=', '<p to="?a=~7', "<code>a", "<code>a=", "<code>a=1", "<code>a=1+", "<code>a='",
                     "<code>a='^", "<code>a='b'", "</", "</p"):
            self.assert_refused(read_page, text, len(text))
            self.assert_refused(read_page, "<p>x</p>" + text, len(text) + 8)

    def test_all_beginnings_of_whole_pages(self):
        for content, text in TOLD:
            for cut in range(len(text)):
                self.check_any(text[:cut])
                state = go_over(START, text[:cut])[0]
                if state != START:
                    self.assert_refused(read_page, text[:cut], cut)

    def test_pages_with_one_sign_more_fewer_or_other(self):
        refused = 0
        for content, text in TOLD:
            for at in range(len(text) + 1):
                self.check_any(text[:at] + text[at + 1:])
                for sign in "<>\"&;/= ap~'^\n":
                    refused += self.check_any(text[:at] + sign + text[at:])
                    refused += self.check_any(text[:at] + sign + text[at + 1:])
        self.assertGreater(refused, 1000)

    def test_the_first_of_several_is_told(self):
        self.assert_refused(read_page, "a>b>c", 1)
        self.assert_refused(read_page, "<p>&x<q></p>", 4)
        self.assert_refused(read_page, "<p a='b'></q>", 5)


if __name__ == "__main__":
    unittest.main()
