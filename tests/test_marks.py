"""Forms written as texts and read back (point 15)."""

import copy
import itertools
import random
import re
import unittest

from safegaps.errors import GapsError, NoForm
from safegaps.forms import is_form, joined_form
from safegaps.marks import read_form, show_form
from tests.helping import ALL_SIGNS, EVERY_SIGN, NO_SIGNS, OTHERS, plainly_joined
from tests.test_forms import JOINED, some_form

A = (("text", "a"),)
B = (("text", "b"),)
GAP = ("gap", "x")

# A joined form and how it is written.
WRITTEN = (
    ((), ""),
    (A, "a"),
    ((GAP,), "{x}"),
    ((("use", "x"),), "{use x}"),
    ((("if", "x", (), ()),), "{if x}{else}{end}"),
    ((("if", "x", A, B),), "{if x}a{else}b{end}"),
    ((("if", "x", A, ()),), "{if x}a{else}{end}"),
    ((("if", "x", (), B),), "{if x}{else}b{end}"),
    ((("each", "x", ()),), "{each x}{end}"),
    ((("each", "x", A),), "{each x}a{end}"),
    ((GAP, GAP, ("use", "x"), ("gap", "y")), "{x}{x}{use x}{y}"),
    (A + (GAP,) + B, "a{x}b"),
    ((("text", "{"),), "{(}"),
    ((("text", "}"),), "{)}"),
    ((("text", "{}"),), "{(}{)}"),
    ((("text", "{{x}}"),), "{(}{(}x{)}{)}"),
    ((("text", "{(}"),), "{(}({)}"),
    ((("text", "{)}"),), "{(}){)}"),
    ((("text", "()"),), "()"),
    ((("text", "a{if x}b{else}c{end}"),), "a{(}if x{)}b{(}else{)}c{(}end{)}"),
    ((("text", "a\n b"), GAP), "a\n b{x}"),
    ((("text", "<p a=\"b\">"), GAP, ("text", "</p>")), "<p a=\"b\">{x}</p>"),
    ((("if", "x", (("if", "y", A, B),), (("if", "z", B, A),)),),
     "{if x}{if y}a{else}b{end}{else}{if z}b{else}a{end}{end}"),
    ((("each", "x", (("each", "y", (GAP,)), ("if", "z", (("each", "x", A),), (("use", "y"),)))),),
     "{each x}{each y}{x}{end}{if z}{each x}a{end}{else}{use y}{end}{end}"),
    ((("if", "x", (("each", "y", ()),), (("each", "y", ()),)), ("each", "y", (("if", "x", (), ()),))),
     "{if x}{each y}{end}{else}{each y}{end}{end}{each y}{if x}{else}{end}{end}"),
)
# What is written otherwise than show_form does, and the form.
READ = (
    ("{if x}{end}", (("if", "x", (), ()),)),
    ("{if x}a{end}", (("if", "x", A, ()),)),
    ("{if x}{if y}a{end}{end}", (("if", "x", (("if", "y", A, ()),), ()),)),
    ("{if x}{if y}a{end}{else}b{end}", (("if", "x", (("if", "y", A, ()),), B),)),
    ("{if x}{if y}a{else}b{end}{end}", (("if", "x", (("if", "y", A, B),), ()),)),
    ("{if x}{else}{if y}a{end}{end}", (("if", "x", (), (("if", "y", A, ()),)),)),
    ("{each x}{if y}a{end}{end}", (("each", "x", (("if", "y", A, ()),)),)),
    ("{if x}{each y}a{end}{end}b", (("if", "x", (("each", "y", A),), ()),) + B),
)
NAMES = (
    "a", "z", "ab", "abcdefgh", "iff", "ifa", "ife", "i", "f", "eacha", "eachx", "eac", "usea", "uses", "us", "u",
    "elsea", "elses", "els", "ends", "enda", "en", "e", "text", "gap", "endif", "elseif", "aif", "aend",
)
NO_NAMES = ("if", "each", "use", "else", "end", "", "abcdefghi", "A", "aB", "a1", "1", "a-b", "_", "a.", "(", ")", "()", "a\n")


def plainly_written(form):
    """The form as point 15 writes it, told a second time."""
    text = ""
    for node in form:
        if node[0] == "text":
            text += re.sub(r"[{}]", lambda found: {"{": "{(}", "}": "{)}"}[found[0]], node[1])
        elif node[0] == "gap":
            text += f"{{{node[1]}}}"
        elif node[0] == "use":
            text += f"{{use {node[1]}}}"
        elif node[0] == "each":
            text += f"{{each {node[1]}}}{plainly_written(node[2])}{{end}}"
        else:
            text += f"{{if {node[1]}}}{plainly_written(node[2])}{{else}}{plainly_written(node[3])}{{end}}"
    return text


NAME = r"(?!(?:if|each|use|else|end)\})[a-z]{1,8}"
TOKEN = re.compile(r"\{[^{}]*\}|.", re.DOTALL)
MARK = re.compile(rf"\{{(?:(?P<word>if|each|use) )?(?P<name>{NAME})\}}")


class Wrong(Exception):
    pass


def plainly_read(text):
    """The form that the text writes, or None; one token after another, each choice and each by a call of its own."""
    tokens = TOKEN.findall(text)
    try:
        form = plain_form(tokens)
    except Wrong:
        return None
    return None if tokens else plainly_joined(form)


def plain_form(tokens):
    nodes = []
    while tokens and tokens[0] not in ("{else}", "{end}"):
        token = tokens.pop(0)
        mark = MARK.fullmatch(token)
        if token in ("{(}", "{)}"):
            nodes.append(("text", {"(": "{", ")": "}"}[token[1]]))
        elif token in ALL_SIGNS and token not in "{}":
            nodes.append(("text", token))
        elif mark is None:
            raise Wrong
        elif mark["word"] in ("if", "each"):
            nodes.append((mark["word"], mark["name"]) + plain_forms(tokens, mark["word"]))
        else:
            nodes.append((mark["word"] or "gap", mark["name"]))
    return tuple(nodes)


def plain_forms(tokens, word):
    forms = [plain_form(tokens)]
    if word == "if":
        forms.append(())
        if tokens[:1] == ["{else}"]:
            tokens.pop(0)
            forms[1] = plain_form(tokens)
    if tokens[:1] != ["{end}"]:
        raise Wrong
    tokens.pop(0)
    return tuple(forms)


def deep_form(depth, kinds):
    """A form whose nodes stand so deep, with texts, gaps and uses all along."""
    form = (("text", "{"), GAP, ("use", "y"))
    for level in range(depth - 1):
        kind = kinds[level % len(kinds)]
        if kind == "each":
            form = A + (("each", "x", form), GAP)
        elif kind == "if":
            form = (GAP, ("if", "x", form, B)) + A
        else:
            form = (("if", "x", (GAP,), form), ("use", "z"))
    return form


class ShownTest(unittest.TestCase):
    def test_as_the_point_tells(self):
        for form, text in WRITTEN:
            self.assertEqual(show_form(form), text)

    def test_forms_that_are_not_joined(self):
        self.assertEqual(show_form((("text", ""),)), "")
        self.assertEqual(show_form((("text", "a"), ("text", ""), ("text", "{b"))), "a{(}b")
        self.assertEqual(show_form((("if", "x", (("text", ""),), A + B),)), "{if x}{else}ab{end}")
        for form, joined in JOINED:
            self.assertEqual(show_form(form), plainly_written(form))
            self.assertEqual(show_form(form), show_form(joined))

    def test_each_sign(self):
        for sign in ALL_SIGNS:
            told = {"{": "{(}", "}": "{)}"}.get(sign, sign)
            self.assertEqual(show_form((("text", sign),)), told)
            self.assertEqual(show_form((("each", "x", (("text", sign + sign),)),)), "{each x}" + told + told + "{end}")

    def test_in_two_parts_it_is_written_end_to_end(self):
        forms = [form for form, text in WRITTEN] + [form for form, joined in JOINED]
        for one, other in itertools.product(forms, repeat=2):
            self.assertEqual(show_form(one + other), show_form(one) + show_form(other))
        for form in forms:
            for cut in range(len(form) + 1):
                self.assertEqual(show_form(form), show_form(form[:cut]) + show_form(form[cut:]))

    def test_what_is_handed_in_stays(self):
        for form, text in WRITTEN:
            kept = copy.deepcopy(form)
            show_form(form)
            self.assertEqual(form, kept)


class ReadTest(unittest.TestCase):
    def test_as_the_point_tells(self):
        for form, text in WRITTEN:
            self.assertEqual(read_form(text), form)

    def test_else_may_lack(self):
        for text, form in READ:
            self.assertEqual(read_form(text), form)
            self.assertEqual(read_form(show_form(form)), form)

    def test_names(self):
        for name in NAMES:
            self.assertEqual(read_form("{" + name + "}"), (("gap", name),))
            self.assertEqual(read_form("a{use " + name + "}b"), A + (("use", name),) + B)
            self.assertEqual(read_form("{each " + name + "}a{end}"), (("each", name, A),))
            self.assertEqual(read_form("{if " + name + "}a{else}b{end}"), (("if", name, A, B),))

    def test_texts_and_brackets_are_joined(self):
        self.assertEqual(read_form("a{(}b{)}c"), (("text", "a{b}c"),))
        self.assertEqual(read_form("{(}{)}{)}{(}"), (("text", "{}}{"),))
        self.assertEqual(read_form("a{(}{x}{)}b"), (("text", "a{"), GAP, ("text", "}b")))
        self.assertEqual(read_form("{if x}a{(}{else}{)}b{end}"), (("if", "x", (("text", "a{"),), (("text", "}b"),)),))
        self.assertEqual(read_form("{each x}{(}a{end}{(}a"), (("each", "x", (("text", "{a"),)), ("text", "{a")))

    def test_each_sign(self):
        for sign in ALL_SIGNS:
            if sign not in "{}":
                self.assertEqual(read_form(sign), (("text", sign),))
                self.assertEqual(read_form("{x}" + sign + "{x}"), (GAP, ("text", sign), GAP))
        self.assertEqual(read_form(show_form((("text", EVERY_SIGN),))), (("text", EVERY_SIGN),))

    def test_what_is_written_is_read_as_the_form_joined(self):
        for form, joined in JOINED:
            self.assertEqual(read_form(show_form(form)), joined)

    def test_eight_deep_and_somewhat_more(self):
        for depth in (1, 2, 3, 7, 8, 9, 12, 40):
            for kinds in (("each",), ("if",), ("other",), ("each", "if", "other"), ("other", "each")):
                form = deep_form(depth, kinds)
                text = show_form(form)
                self.assertEqual(text, plainly_written(form))
                self.assertEqual(read_form(text), form)

    def test_forms_made_by_chance(self):
        chance = random.Random(150)
        for count in range(2000):
            form = some_form(chance, 5)
            text = show_form(form)
            self.assertEqual(text, plainly_written(form))
            self.assertEqual(read_form(text), plainly_joined(form))
            self.assertEqual(read_form(text), joined_form(form))

    def test_a_long_text(self):
        self.assertEqual(read_form("a" * 4000), (("text", "a" * 4000),))
        self.assertEqual(read_form("{(}" * 1300), (("text", "{" * 1300),))
        self.assertEqual(read_form("{x}" * 1300), (GAP,) * 1300)
        self.assertEqual(read_form("{x}a" * 1000), ((GAP,) + A) * 1000)


class RefusedTest(unittest.TestCase):
    def assert_refused(self, thing):
        try:
            form = read_form(thing)
        except NoForm as refused:
            self.assertIs(refused.__class__, NoForm)
            self.assertIsInstance(refused, GapsError)
        else:
            self.fail(f"{thing!r} is read as {form!r}")

    def test_marks_that_do_not_match(self):
        for text in (
            "{end}", "a{end}", "{end}a", "{else}", "a{else}b", "{else}{end}", "{x}{end}", "{use x}{end}", "{end}{if x}",
            "{if x}", "{if x}a", "{if x}a{else}b", "{each x}", "{each x}a", "{if x}{if y}{end}", "{each x}{each y}a{end}",
            "{if x}{each y}{end}", "{each x}{if y}{else}{end}", "{if x}a{end}{end}", "{each x}a{end}{end}",
            "{if x}a{else}b{end}{end}", "{if x}a{else}b{else}c{end}", "{if x}{else}{else}{end}", "{each x}a{else}b{end}",
            "{each x}{else}{end}", "{if x}{each y}{else}{end}{end}", "{if x}a{else}{if y}{else}{else}{end}{end}",
            "{if x}a{end}{else}b{end}", "{each x}{if y}a{end}{else}{end}", "{if x}{else}{each y}{else}{end}{end}",
        ):
            self.assert_refused(text)

    def test_brackets_alone(self):
        for text in (
            "{", "}", "a{", "a}", "{a", "}a", "}{", "{{", "}}", "{}", "{ }", "{{x}", "{x}}", "{{x}}", "{x", "x}", "{if x",
            "{x{y}", "{(", "(}", "{(}}", "{{(}", "{)}}", "{if x}a{end", "{if x}a}{end}", "{if x}a{else}}{end}", "{each x}{{end}",
            "{(}{", "{)}}", "{[}", "{]}", "{{}", "{}}", "{(x}", "{(})}}",
        ):
            self.assert_refused(text)

    def test_marks_that_are_none(self):
        for text in (
            "{()}", "{)(}", "{( }", "{ (}", "{( x}", "{use}", "{use }", "{if}", "{if }", "{each}", "{each }", "{if}{end}",
            "{ x}", "{x }", "{ x }", "{x y}", "{use  x}", "{use x }", "{ use x}", "{use x y}", "{use\nx}", "{useA}", "{use-x}",
            "{if  x}{end}", "{if x }{end}", "{ if x}{end}", "{if x y}{end}", "{if\nx}{end}", "{IF x}{end}", "{If x}{end}",
            "{each  x}{end}", "{each x }{end}", "{ each x}{end}", "{each x y}{end}", "{Each x}{end}", "{for x}{end}",
            "{if x}{else }{end}", "{if x}{ else}{end}", "{if x}{Else}{end}", "{if x}{end }", "{if x}{ end}", "{if x}{END}",
            "{if x}{else x}{end}", "{if x}{end x}", "{if x}{end if}", "{if x}{elif y}{end}", "{x.y}", "{x|y}", "{#x}", "{/if}",
            "{ifx y}", "{usex y}", "{gap x}", "{text x}", "{x,y}", "{if (}{end}", "{use (}", "{x\n}", "{\nx}",
        ):
            self.assert_refused(text)

    def test_names_that_are_none(self):
        for name in NO_NAMES:
            if name not in ("(", ")", "else", "end"):
                self.assert_refused("{" + name + "}")
            self.assert_refused("{use " + name + "}")
            self.assert_refused("{each " + name + "}a{end}")
            self.assert_refused("{if " + name + "}a{else}b{end}")

    def test_signs_that_are_none(self):
        for sign in NO_SIGNS:
            for text in (sign, "a" + sign, sign + "{x}", "{x}" + sign, "{" + sign + "}", "{x" + sign + "}", "{use" + sign + "x}",
                         "{use x" + sign + "}", "{if x}" + sign + "{end}", "{each x}{x}" + sign + "{end}", "{" + sign + "x}"):
                self.assert_refused(text)

    def test_what_is_no_text(self):
        for thing in OTHERS + (("text", "a"), (("text", "a"),), (), ("a",), ["{x}"], b"{x}", 0.0):
            if not isinstance(thing, str):
                try:
                    read_form(thing)
                except NoForm:
                    continue
                self.fail(thing.__class__)

    def test_texts_of_marks(self):
        tokens = ("a", "{(}", "{x}", "{if x}", "{else}", "{end}", "{each x}", "{use x}", "{", "}", "{if}")
        counts = {True: 0, False: 0}
        for length in range(5):
            for some in itertools.product(tokens, repeat=length):
                counts[self.check_as_plainly_read("".join(some))] += 1
        self.assertGreater(counts[True], 500)
        self.assertGreater(counts[False], 500)

    def test_texts_by_chance(self):
        chance = random.Random(151)
        marks = ("{if x}", "{else}", "{end}", "{each y}", "{end}", "{x}", "a", "{)}", "{use z}")
        counts = {True: 0, False: 0}
        for count in range(20000):
            text = "".join(chance.choice(marks) for part in range(chance.randint(3, 12)))
            if chance.random() < 0.2:
                at = chance.randrange(len(text))
                text = text[:at] + chance.choice(("", " ", "{", "}", "x", "(", "if", "\t", "%")) + text[at + 1:]
            counts[self.check_as_plainly_read(text)] += 1
        self.assertGreater(counts[True], 500)
        self.assertGreater(counts[False], 500)

    def check_as_plainly_read(self, text):
        """Whether the text is read, as the second telling says."""
        form = plainly_read(text)
        if form is None:
            self.assert_refused(text)
            return False
        self.assertEqual(read_form(text), form, text)
        self.assertTrue(is_form(form))
        return True

    def test_marks_that_stand_very_deep(self):
        self.assert_refused("{if x}" * 600)
        self.assert_refused("{each x}" * 450 + "{end}" * 70)
        self.assert_refused("{if x}" * 300 + "{end}" * 301)
        self.assert_refused("{end}" * 800)


if __name__ == "__main__":
    unittest.main()
