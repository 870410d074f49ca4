"""Forms: what is one, and forms joined (points 14 and 15)."""

import copy
import itertools
import random
import unittest

from safegaps.forms import is_form, joined_form
from tests.helping import ALL_SIGNS, EVERY_SIGN, NO_SIGNS, OTHERS, plainly_joined

TEXT = ("text", "a")
GAP = ("gap", "a")
EMPTY = ("text", "")
CHOICE = ("if", "a", (TEXT,), (GAP,))
EACH = ("each", "a", (GAP,))
USE = ("use", "a")
NODES = (TEXT, GAP, EMPTY, CHOICE, EACH, USE, ("if", "b", (), ()), ("each", "b", ()))
WORDS = ("if", "each", "use", "else", "end")
NAMES = ("a", "z", "ab", "abcdefg", "abcdefgh", "text", "gap", "code", "iff", "i", "uses", "ends", "elsee", "true", "none")
NO_NAMES = ("", "abcdefghi", "A", "aB", "a1", "1", "a b", " a", "a ", "a-", "_", "a\n", "\n", "\xe9", "\u0430", "a.b", "{a}")


class IsFormTest(unittest.TestCase):
    def assert_form(self, thing):
        self.assertIs(is_form(thing), True)

    def assert_none(self, thing):
        """It is no form, and nothing is one that has it as a form in it."""
        self.assertIs(is_form(thing), False)
        self.assertIs(is_form((("each", "a", thing),)), False)
        self.assertIs(is_form((("if", "a", thing, ()),)), False)
        self.assertIs(is_form((("if", "a", (), thing),)), False)
        self.assertIs(is_form((TEXT, ("each", "a", (GAP, ("if", "a", (), thing))), TEXT)), False)

    def assert_no_node(self, thing):
        self.assert_none((thing,))
        self.assert_none((TEXT, thing))
        self.assert_none((thing, GAP))
        self.assert_none((TEXT, EACH, thing, CHOICE))

    def test_the_form_of_no_nodes(self):
        self.assert_form(())

    def test_each_kind_of_node(self):
        for node in NODES:
            self.assert_form((node,))
            self.assert_form((node, node, node))

    def test_nodes_side_by_side_and_in_one_another(self):
        for one, other in itertools.product(NODES, repeat=2):
            self.assert_form((one, other))
            self.assert_form((("if", "c", (one,), (other,)), ("each", "c", (one, other)), ("each", "d", ())))
            self.assert_form((("each", "c", (("if", "d", (one, other), ()), ("if", "d", (), (other, one)))),))

    def test_names(self):
        for name in NAMES:
            for node in (("gap", name), ("if", name, (), ()), ("each", name, ()), ("use", name)):
                self.assert_form((node,))
                self.assert_form((("each", "x", (TEXT, node)),))

    def test_names_that_are_none(self):
        for name in WORDS + NO_NAMES + OTHERS:
            if isinstance(name, str) and name in NAMES:
                continue
            for node in (("gap", name), ("if", name, (), ()), ("each", name, ()), ("use", name)):
                self.assert_no_node(node)

    def test_a_text_may_be_any_text(self):
        for text in ("", "a", "two\nrows", "<p>", "&", "</code>", "{", "}", "{a}", "if", "A1", EVERY_SIGN, "x" * 4000):
            self.assert_form((("text", text),))
        for sign in ALL_SIGNS:
            self.assert_form((("text", sign), EACH))

    def test_texts_that_are_none(self):
        for sign in NO_SIGNS:
            for text in (sign, "a" + sign, sign + "a", "a" + sign + "b"):
                self.assert_no_node(("text", text))
        for thing in OTHERS:
            if not isinstance(thing, str):
                self.assert_no_node(("text", thing))

    def test_other_things(self):
        for thing in OTHERS:
            self.assert_none(thing)

    def test_other_things_as_nodes(self):
        for thing in OTHERS:
            self.assert_no_node(thing)
            self.assert_no_node((thing,))
            self.assert_no_node(((),))
        self.assert_no_node(())

    def test_a_node_is_no_form(self):
        for node in NODES:
            self.assert_none(node)

    def test_a_form_is_no_node(self):
        for node in NODES:
            self.assert_no_node((node,))
            self.assert_no_node((node, node))

    def test_lists_in_the_place_of_tuples(self):
        for node in NODES:
            self.assert_none([node])
            self.assert_no_node(list(node))
        self.assert_no_node(("each", "a", []))
        self.assert_no_node(("each", "a", [GAP]))
        self.assert_no_node(("if", "a", [], ()))
        self.assert_no_node(("if", "a", (), []))
        self.assert_no_node(("if", "a", (GAP,), [GAP]))

    def test_nodes_of_a_wrong_length(self):
        for node in NODES:
            for length in range(len(node)):
                self.assert_no_node(node[:length])
            for more in ("a", (), (GAP,), None):
                self.assert_no_node(node + (more,))
                self.assert_no_node(node + (more, more))
        self.assert_no_node(("if", "a", (GAP,)))
        self.assert_no_node(("each", "a"))
        self.assert_no_node(("each", "a", (), ()))

    def test_nodes_with_another_first_thing(self):
        for first in ("", "a", "Text", "texts", "tex", "GAP", "If", "else", "end", "for", "code", "text ", "\ud800") + OTHERS:
            if isinstance(first, str) and first == "text":
                continue
            for rest in (("a",), ("a", ()), ("a", (), ()), ("",), ()):
                self.assert_no_node((first,) + rest)

    def test_forms_in_nodes_that_have_none(self):
        for kind in ("text", "gap", "use"):
            self.assert_no_node((kind, (GAP,)))
            self.assert_no_node((kind, "a", ()))
            self.assert_no_node((kind, (kind, "a")))

    def test_nested_deep(self):
        for depth in (8, 9, 50, 100, 400):
            for inmost, told in (((), True), ((TEXT, USE), True), ([], False), ((("gap", "if"),), False), (None, False)):
                form = inmost
                other = inmost
                for count in range(depth):
                    form = (("each", "a", form),)
                    other = (("if", "a", (), other), GAP) if count % 2 else (TEXT, ("if", "a", other, ()))
                self.assertIs(is_form(form), told)
                self.assertIs(is_form(other), told)

    def test_other_things_nested_deep(self):
        lists, tuples, dicts = [], (), {}
        for count in range(100):
            lists, tuples, dicts = [lists], (tuples,), {"a": dicts}
        for thing in (lists, tuples, dicts):
            self.assert_none(thing)
            self.assert_no_node(thing)
            self.assert_no_node(("gap", thing))
            self.assert_no_node(("text", thing))
            self.assert_no_node((thing, "a"))

    def test_many_nodes(self):
        self.assert_form(NODES * 150)
        self.assert_none(NODES * 150 + (("gap", "end"),))
        self.assert_form((("each", "a", NODES * 100), ("if", "b", NODES * 50, NODES)))

    def test_what_is_handed_in_stays(self):
        thing = [("text", "a"), ["gap", ["b"]], {"c": [1]}]
        kept = copy.deepcopy(thing)
        is_form(thing)
        is_form((("each", "a", thing),))
        is_form((("gap", thing), ("text", thing), tuple(thing)))
        self.assertEqual(thing, kept)


def texts(*words):
    return tuple(("text", word) for word in words)


# A form and that form joined.
JOINED = (
    ((), ()),
    (texts(""), ()),
    (texts("", "", ""), ()),
    (texts("a"), texts("a")),
    (texts("a", "b"), texts("ab")),
    (texts("a", "", "b"), texts("ab")),
    (texts("", "a", "", "", "b", "c", ""), texts("abc")),
    (texts("{", "a}", "\n"), texts("{a}\n")),
    ((GAP,), (GAP,)),
    ((GAP, GAP, USE, USE), (GAP, GAP, USE, USE)),
    ((EMPTY, GAP, EMPTY, USE, EMPTY), (GAP, USE)),
    (texts("a", "b") + (GAP,) + texts("c", "d"), texts("ab") + (GAP,) + texts("cd")),
    (texts("a") + (USE,) + texts("b"), texts("a") + (USE,) + texts("b")),
    ((GAP,) + texts("b", "c") + (GAP,), (GAP,) + texts("bc") + (GAP,)),
    ((("if", "a", (), ()),), (("if", "a", (), ()),)),
    ((("if", "a", texts("", ""), texts("")), ("each", "b", texts(""))), (("if", "a", (), ()), ("each", "b", ()))),
    ((("if", "a", texts("b", "c"), texts("d", "", "e")),), (("if", "a", texts("bc"), texts("de")),)),
    ((("each", "a", texts("b", "c") + (GAP,) + texts("")),), (("each", "a", texts("bc") + (GAP,)),)),
    (texts("a") + (("each", "a", ()),) + texts("b"), texts("a") + (("each", "a", ()),) + texts("b")),
    (texts("a", "b") + (("if", "a", texts("c", "d"), ()),) + texts("e", "f"),
     texts("ab") + (("if", "a", texts("cd"), ()),) + texts("ef")),
    ((("each", "a", (("if", "b", texts("c", "d"), (("each", "e", texts("", "f", "g")),)),)),),
     (("each", "a", (("if", "b", texts("cd"), (("each", "e", texts("fg")),)),)),)),
)


def some_form(chance, depth):
    nodes = []
    for count in range(chance.randint(0, 6)):
        kind = chance.choice(("text", "text", "text", "gap", "use") + ("if", "each") * (depth > 1))
        name = chance.choice(("a", "b"))
        if kind == "text":
            nodes.append((kind, chance.choice(("", "", "a", "bc", "\n"))))
        elif kind in ("gap", "use"):
            nodes.append((kind, name))
        else:
            inner = tuple(some_form(chance, depth - 1) for part in range(2 if kind == "if" else 1))
            nodes.append((kind, name) + inner)
    return tuple(nodes)


class JoinedFormTest(unittest.TestCase):
    def test_as_the_point_tells(self):
        for form, joined in JOINED:
            self.assertEqual(joined_form(form), joined)

    def test_within_choices_and_eachs(self):
        for form, joined in JOINED:
            for other, together in JOINED:
                self.assertEqual(joined_form((("if", "x", form, other), ("each", "y", other))),
                                 (("if", "x", joined, together), ("each", "y", together)))

    def test_a_joined_form_stays(self):
        for form, joined in JOINED:
            self.assertEqual(joined_form(joined), joined)

    def test_what_is_told_is_a_form(self):
        for form, joined in JOINED:
            self.assertTrue(is_form(form))
            self.assertTrue(is_form(joined_form(form)))

    def test_what_is_handed_in_stays(self):
        for form, joined in JOINED:
            kept = copy.deepcopy(form)
            joined_form(form)
            self.assertEqual(form, kept)

    def test_forms_made_by_chance(self):
        chance = random.Random(15)
        for count in range(2000):
            form = some_form(chance, 5)
            self.assertEqual(joined_form(form), plainly_joined(form))

    def test_twelve_hundred_nodes(self):
        words = [f"w{number}" for number in range(1200)]
        self.assertEqual(joined_form(texts(*words)), texts("".join(words)))
        self.assertEqual(joined_form(texts(*[""] * 1200)), ())
        self.assertEqual(joined_form(texts(*["x" * 3] * 1200)), texts("x" * 3600))
        form = (GAP, ("text", "a"), ("text", "b")) * 400
        self.assertEqual(joined_form(form), (GAP, ("text", "ab")) * 400)
        form = (("each", "a", texts("a", "b")), ("if", "b", texts("c"), (EMPTY,))) * 200
        self.assertEqual(joined_form(form), (("each", "a", texts("ab")), ("if", "b", texts("c"), ())) * 200)

    def test_eight_deep_and_somewhat_more(self):
        for depth in (8, 12, 40):
            form = texts("a", "", "b")
            joined = texts("ab")
            for count in range(depth - 1):
                form = texts("c", "d") + (("each", "a", form), EMPTY, ("if", "b", (EMPTY,), form if count < 3 else ()))
                joined = texts("cd") + (("each", "a", joined), ("if", "b", (), joined if count < 3 else ()))
            self.assertEqual(joined_form(form), joined)


if __name__ == "__main__":
    unittest.main()
