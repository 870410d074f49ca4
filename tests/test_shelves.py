"""Shelves, which keep forms by names (point 24)."""

import copy
import itertools
import random
import unittest

from safegaps.errors import GapsError, NoForm, NoName, NoValue, Ring, Stuck, TooGreat, Unended
from safegaps.fills import fill_form
from safegaps.forms import is_form
from safegaps.looks import let_by
from safegaps.marks import read_form, show_form
from safegaps.shelves import Shelf
from tests.helping import OTHERS, FormMaker, plainly_joined
from tests.test_fills import FILLED, NOT_FILLED, DataMaker
from tests.test_looks import LOOKED, REFUSED, UNENDED
from tests.test_marks import NAMES, WRITTEN

NO_NAMES = ("if", "each", "use", "else", "end", "", "abcdefghi", "A", "a1", "a b", " a", "_", "a\n", "\n", "{a}", "\xe9", "\t")
NO_FORMS = ("{", "}", "{if x}", "{end}", "{else}", "{ x}", "{use}", "a\t", "%", "{each x}{else}{end}")

# Forms by names, the name that is asked for, and the text of the form told whole.
WHOLE = (
    ({"a": ""}, "a", ""),
    ({"a": "b{x}c"}, "a", "b{x}c"),
    ({"a": "{use b}", "b": "c"}, "a", "c"),
    ({"a": "1{use b}2", "b": "3"}, "a", "132"),
    ({"a": "1{use b}2", "b": "3"}, "b", "3"),
    ({"a": "1{use b}2", "b": ""}, "a", "12"),
    ({"a": "{use b}{use b}", "b": "{x}"}, "a", "{x}{x}"),
    ({"a": "1{use b}2{use b}3", "b": "<{use c}>", "c": "p"}, "a", "1<p>2<p>3"),
    ({"a": "{use b}{use c}", "b": "{use d}1", "c": "{use d}2", "d": "{x}"}, "a", "{x}1{x}2"),
    ({"a": "{use b}", "b": "{use c}", "c": "{use d}", "d": "{(}{y}"}, "a", "{(}{y}"),
    ({"a": "{if x}1{use b}{else}{use b}2{end}", "b": "3"}, "a", "{if x}13{else}32{end}"),
    ({"a": "{each x}1{use b}2{use b}{end}{use b}", "b": "{if y}{x}{end}"}, "a",
     "{each x}1{if y}{x}{end}2{if y}{x}{end}{end}{if y}{x}{end}"),
    ({"a": "{each x}{if y}{use b}{else}{each z}{use c}{end}{end}{end}", "b": "{use c}", "c": "0"}, "a",
     "{each x}{if y}0{else}{each z}0{end}{end}{end}"),
    ({"a": "b", "z": "{use z}", "y": "{use no}", "x": "{each b}" * 9 + "{end}" * 9}, "a", "b"),
    ({"a": "{if x}{use b}{end}", "b": "c"}, "a", "{if x}c{end}"),
)
# Forms by names, the name that is asked for, and the refusal with its name.
NOT_WHOLE = (
    ({}, "a", NoName, "a"),
    ({"b": ""}, "a", NoName, "a"),
    ({"a": "{use b}"}, "a", NoName, "b"),
    ({"a": "{use b}", "b": "1{use c}2"}, "a", NoName, "c"),
    ({"a": "{use b}{use c}"}, "a", NoName, "b"),
    ({"a": "{use b}{use c}", "b": ""}, "a", NoName, "c"),
    ({"a": "{if x}{else}{use b}{end}"}, "a", NoName, "b"),
    ({"a": "{each x}{each y}{use b}{end}{end}"}, "a", NoName, "b"),
    ({"a": "{use a}"}, "a", Ring, "a"),
    ({"a": "1{x}{use a}2"}, "a", Ring, "a"),
    ({"a": "{if x}{use a}{end}"}, "a", Ring, "a"),
    ({"a": "{if x}1{else}{each y}{use a}{end}{end}"}, "a", Ring, "a"),
    ({"a": "{use b}", "b": "{use a}"}, "a", Ring, "a"),
    ({"a": "{use b}", "b": "{use a}"}, "b", Ring, "b"),
    ({"a": "{use b}", "b": "{use b}"}, "a", Ring, "b"),
    ({"a": "{use b}", "b": "{use c}", "c": "{use b}"}, "a", Ring, "b"),
    ({"a": "{use b}", "b": "{use c}", "c": "{use a}"}, "a", Ring, "a"),
    ({"a": "{use b}", "b": "{use c}", "c": "{use c}"}, "a", Ring, "c"),
    ({"a": "{use b}{use a}", "b": ""}, "a", Ring, "a"),
    ({"a": "{use b}{use b}{use c}", "b": "{use d}", "c": "{use d}{use c}", "d": ""}, "a", Ring, "c"),
    ({"a": "{each x}{use b}{end}", "b": "{if x}{use a}{end}"}, "a", Ring, "a"),
    # What is come to first goes first.
    ({"a": "{use a}{use b}"}, "a", Ring, "a"),
    ({"a": "{use b}{use a}"}, "a", NoName, "b"),
    ({"a": "{use c}{use b}", "c": "{use c}"}, "a", Ring, "c"),
    ({"a": "{use c}{use b}", "c": "{use d}"}, "a", NoName, "d"),
    ({"a": "{if x}{use b}{else}{use a}{end}"}, "a", NoName, "b"),
    ({"a": "{if x}{use a}{else}{use b}{end}"}, "a", Ring, "a"),
    ({"a": "{each x}{use b}{end}{use a}"}, "a", NoName, "b"),
    ({"a": "{use c}{use d}", "c": "{use d}", "d": "{use c}"}, "a", Ring, "c"),
)


def shelf_of(forms):
    shelf = Shelf()
    for name in forms:
        shelf.put(name, forms[name])
    return shelf


def outcome(ask, *given):
    """What is told, or the class and the values of the refusal."""
    try:
        return ask(*given)
    except GapsError as refused:
        return refused.__class__, vars(refused)


def nest(depth, inmost, word="each"):
    """The text of a form with so many nodes in one another around the inmost text."""
    return "{" + word + " x}" + nest(depth - 1, inmost, word) + "{end}" if depth else inmost


class TooMuch(Exception):
    pass


def plainly_whole(forms, name):
    """The form told whole, or the class and the name of the refusal, found by a walk over texts cut into nodes."""
    met = []

    def grow(form, depth, within):
        nodes = ()
        for node in form:
            met.append(node)
            if len(met) > 200 or depth > 8:
                raise TooMuch(TooGreat, None)
            if node[0] != "use":
                nodes += (node[:2] + tuple(grow(inner, depth + 1, within) for inner in node[2:]),)
            elif node[1] not in forms:
                raise TooMuch(NoName, node[1])
            elif node[1] in within:
                raise TooMuch(Ring, node[1])
            else:
                nodes += grow(read_form(forms[node[1]]), depth, within + (node[1],))
        return nodes

    if name not in forms:
        return NoName, name
    try:
        return plainly_joined(grow(read_form(forms[name]), 1, (name,)))
    except TooMuch as told:
        return told.args


class PutTest(unittest.TestCase):
    def test_what_is_put_is_told(self):
        for form, text in WRITTEN:
            if "use" not in text:
                shelf = Shelf()
                self.assertIsNone(shelf.put("a", text))
                self.assertEqual(shelf.whole("a"), form)

    def test_names(self):
        shelf = Shelf()
        for name in NAMES:
            self.assertIsNone(shelf.put(name, name))
        for name in NAMES:
            self.assertEqual(shelf.whole(name), (("text", name),))
        self.assertEqual(shelf.names_there(), sorted(NAMES))

    def test_put_again_otherwise(self):
        shelf = shelf_of({"a": "1", "b": "2{use a}"})
        self.assertEqual(shelf.whole("b"), (("text", "21"),))
        shelf.put("a", "{x}")
        self.assertEqual(shelf.whole("b"), (("text", "2"), ("gap", "x")))
        shelf.put("a", "{use c}")
        self.assertEqual(outcome(shelf.whole, "b"), (NoName, {"name": "c"}))
        shelf.put("c", "{use b}")
        self.assertEqual(outcome(shelf.whole, "b"), (Ring, {"name": "b"}))
        shelf.put("c", "3")
        self.assertEqual(shelf.whole("b"), (("text", "23"),))
        self.assertEqual(shelf.names_there(), ["a", "b", "c"])

    def test_before_and_behind(self):
        for forms, name, text in WHOLE:
            for order in itertools.permutations(forms):
                shelf = shelf_of({other: forms[other] for other in order})
                self.assertEqual(shelf.whole(name), read_form(text))

    def test_no_name(self):
        shelf = shelf_of({"a": "1"})
        for name in NO_NAMES + tuple(thing for thing in OTHERS if not isinstance(thing, str)):
            for text in ("b", "{", None, 7):
                with self.assertRaises(NoName) as caught:
                    shelf.put(name, text)
                self.assertIs(caught.exception.name, name)
                self.assertIs(caught.exception.__class__, NoName)
                self.assertEqual(shelf.names_there(), ["a"])
        self.assertEqual(shelf.whole("a"), (("text", "1"),))

    def test_no_form(self):
        shelf = shelf_of({"a": "1"})
        for text in NO_FORMS + tuple(thing for thing in OTHERS if not isinstance(thing, str)) + ((), (("text", "a"),), ["a"]):
            for name in ("a", "b"):
                with self.assertRaises(NoForm):
                    shelf.put(name, text)
                self.assertEqual(shelf.names_there(), ["a"])
                self.assertEqual(shelf.whole("a"), (("text", "1"),))
        self.assertEqual(outcome(shelf.whole, "b"), (NoName, {"name": "b"}))

    def test_what_is_too_great_or_a_ring_may_be_put(self):
        shelf = Shelf()
        for text in ("{use a}", "{use b}", nest(12, ""), "{x}" * 400):
            self.assertIsNone(shelf.put("a", text))
            self.assertEqual(shelf.names_there(), ["a"])

    def test_names_rising(self):
        shelf = Shelf()
        self.assertEqual(shelf.names_there(), [])
        names = ["b", "a", "ab", "aa", "z", "abcdefgh", "b", "aaa", "y", "a"]
        for count, name in enumerate(names):
            shelf.put(name, "")
            self.assertEqual(shelf.names_there(), sorted(set(names[:count + 1])))
            self.assertIs(shelf.names_there().__class__, list)

    def test_what_is_told_is_the_askers_own(self):
        shelf = shelf_of({"a": "1", "b": "2"})
        names = shelf.names_there()
        names.append("c")
        names[0] = "z"
        self.assertEqual(shelf.names_there(), ["a", "b"])
        self.assertIsNot(shelf.names_there(), shelf.names_there())
        self.assertEqual(outcome(shelf.whole, "c"), (NoName, {"name": "c"}))

    def test_two_shelves_stand_apart(self):
        one, other = Shelf(), Shelf()
        one.put("a", "1")
        self.assertEqual(other.names_there(), [])
        other.put("a", "2")
        other.put("b", "3")
        self.assertEqual((one.whole("a"), other.whole("a")), ((("text", "1"),), (("text", "2"),)))
        self.assertEqual((one.names_there(), other.names_there()), (["a"], ["a", "b"]))
        self.assertEqual(Shelf().names_there(), [])


class WholeTest(unittest.TestCase):
    def test_as_the_point_tells(self):
        for forms, name, text in WHOLE:
            told = shelf_of(forms).whole(name)
            self.assertEqual(told, read_form(text))
            self.assertTrue(is_form(told))
            self.assertEqual(plainly_whole(forms, name), told)

    def test_refused(self):
        for forms, name, kind, told in NOT_WHOLE:
            shelf = shelf_of(forms)
            self.assertEqual(outcome(shelf.whole, name), (kind, {"name": told}), forms)
            self.assertEqual(outcome(shelf.lets, name), (kind, {"name": told}))
            self.assertEqual(outcome(shelf.fill, name, {}), (kind, {"name": told}))
            self.assertEqual(plainly_whole(forms, name), (kind, told))
            self.assertEqual(shelf.names_there(), sorted(forms))
            self.assertEqual(outcome(shelf.whole, name), (kind, {"name": told}))

    def assert_too_great(self, forms):
        self.assertIs(outcome(shelf_of(forms).whole, "a")[0], TooGreat, forms)
        self.assertIs(outcome(shelf_of(forms).lets, "a")[0], TooGreat)
        self.assertIs(outcome(shelf_of(forms).fill, "a", {})[0], TooGreat)
        self.assertEqual(plainly_whole(forms, "a"), (TooGreat, None))

    def assert_whole(self, forms, text):
        self.assertEqual(shelf_of(forms).whole("a"), read_form(text))

    def test_two_hundred_nodes(self):
        for text in (
            "{x}" * 200, "{x}1" * 100, "{each x}{x}{end}" * 100, "{each x}" + "{x}" * 199 + "{end}", "{if x}{end}" * 200,
            "{if x}{x}{else}1{end}" * 66 + "{x}{x}", "{if x}" + "{y}" * 100 + "{else}" + "{y}" * 99 + "{end}",
        ):
            self.assert_whole({"a": text}, text)
            for more in ("{x}", "{each x}{end}", "{if x}{end}", "{use b}"):
                self.assert_too_great({"a": text + more, "b": ""})
                self.assert_too_great({"a": more + text, "b": ""})
        self.assert_whole({"a": "{x}" * 199}, "{x}" * 199)
        self.assert_whole({"a": "{x}" * 199 + "1"}, "{x}" * 199 + "1")
        self.assert_too_great({"a": "{x}" * 199 + "1{x}"})

    def test_uses_and_what_they_bring_are_counted(self):
        self.assert_whole({"a": "{use b}" * 200, "b": ""}, "")
        self.assert_too_great({"a": "{use b}" * 201, "b": ""})
        self.assert_whole({"a": "{use b}" * 100, "b": "1"}, "1" * 100)
        self.assert_too_great({"a": "{use b}" * 100 + "2", "b": "1"})
        self.assert_whole({"a": "{use b}" * 40, "b": "{use c}{use c}", "c": "1"}, "1" * 80)
        self.assert_too_great({"a": "{use b}" * 40 + "2", "b": "{use c}{use c}", "c": "1"})
        self.assert_whole({"a": "{use b}", "b": "{x}" * 199}, "{x}" * 199)
        self.assert_too_great({"a": "{use b}", "b": "{x}" * 200})
        self.assert_whole({"a": "{x}" * 100 + "{use b}", "b": "{x}" * 99}, "{x}" * 199)
        self.assert_too_great({"a": "{x}" * 101 + "{use b}", "b": "{x}" * 99})
        self.assert_too_great({"a": "{each x}{use b}{end}" * 67, "b": "{x}"})
        self.assert_whole({"a": "{each x}{use b}{end}" * 66 + "12", "b": "{x}"}, "{each x}{x}{end}" * 66 + "12")

    def test_a_long_chain_of_uses(self):
        names = ["".join(name) for name in itertools.product("abcdefgh", repeat=3)][:300]
        for count in (200, 201, 202, 250):
            forms = {name: "{use " + after + "}" for name, after in zip(names, names[1:])}
            forms["a"] = "{use aaa}"
            forms[names[count - 1]] = ""
            if count <= 200:
                self.assert_whole(forms, "")
            else:
                self.assert_too_great(forms)
        # Two hundred nodes behind which stand a name that is not there, and the ring of all of them.
        forms = {name: "{use " + after + "}" for name, after in zip(names, names[1:200])} | {"a": "{use aaa}"}
        self.assertEqual(outcome(shelf_of(forms).whole, "a"), (NoName, {"name": names[199]}))
        forms[names[198]] = "{use aaa}"
        self.assertEqual(outcome(shelf_of(forms).whole, "a"), (Ring, {"name": "aaa"}))

    def test_eight_deep(self):
        for word in ("each", "if"):
            for inmost in ("1", "{x}", "{each y}{end}", "{if y}{end}", "{use b}"):
                forms = {"a": nest(7, inmost, word), "b": "2"}
                self.assert_whole(forms, nest(7, inmost.replace("{use b}", "2"), word))
                self.assert_too_great({"a": nest(8, inmost, word), "b": "2"})
                self.assert_too_great({"a": nest(8, inmost, word), "b": ""})
            self.assert_whole({"a": nest(8, "", word)}, nest(8, "", word))
            self.assert_too_great({"a": nest(9, "", word)})
        deep = "{if x}{else}" * 7 + "1" + "{end}" * 7
        self.assert_whole({"a": deep}, deep)
        self.assert_too_great({"a": "{if x}{else}" * 8 + "1" + "{end}" * 8})

    def test_what_is_used_stands_as_deep_as_the_use(self):
        self.assert_whole({"a": nest(7, "{use b}"), "b": "{use c}", "c": "{use d}", "d": "1"}, nest(7, "1"))
        self.assert_whole({"a": nest(3, "{use b}"), "b": nest(4, "{use c}"), "c": "1{x}"}, nest(7, "1{x}"))
        self.assert_whole({"a": nest(3, "{use b}"), "b": nest(5, "")}, nest(8, ""))
        self.assert_too_great({"a": nest(3, "{use b}"), "b": nest(5, "{x}")})
        self.assert_too_great({"a": nest(3, "{use b}"), "b": nest(4, "{use c}"), "c": "{each x}1{end}"})
        self.assert_too_great({"a": "{use b}", "b": nest(9, "")})

    def test_too_great_and_what_else_is_due(self):
        # TooGreat goes ahead of what the node itself would bring, and behind what is come to ahead of it.
        self.assert_too_great({"a": "{x}" * 200 + "{use no}"})
        self.assert_too_great({"a": "{x}" * 200 + "{use a}"})
        self.assert_too_great({"a": nest(8, "{use no}")})
        self.assert_too_great({"a": nest(8, "{use a}")})
        for text, kind, name in (
            ("{x}" * 199 + "{use no}" + "{x}", NoName, "no"), ("{x}" * 199 + "{use a}" + "{x}", Ring, "a"),
            (nest(7, "{use no}"), NoName, "no"), (nest(7, "{use a}"), Ring, "a"),
            (nest(7, "{use no}{each x}1{end}"), NoName, "no"), (nest(7, "{use a}{each x}1{end}"), Ring, "a"),
            ("{use no}" + "{x}" * 300, NoName, "no"), ("{use a}" + nest(12, "1"), Ring, "a"),
        ):
            self.assertEqual(outcome(shelf_of({"a": text}).whole, "a"), (kind, {"name": name}), text)
            self.assertEqual(plainly_whole({"a": text}, "a"), (kind, name))
        self.assert_too_great({"a": nest(7, "{each x}1{end}{use no}")})
        self.assert_too_great({"a": nest(7, "{each x}{use no}{end}")})
        self.assert_too_great({"a": "{use b}{use no}", "b": "{x}" * 200})
        self.assert_too_great({"a": "{use b}{use a}", "b": nest(9, "")})
        self.assert_too_great({"a": "{x}" * 201 + nest(9, "")})

    def test_forms_made_by_chance(self):
        chance = random.Random(24)
        kinds = {NoName: 0, Ring: 0, TooGreat: 0, None: 0}
        for count in range(3000):
            forms = {name: self.some_text(chance, 3) for name in ["a"] + chance.sample("bcdef", chance.randint(2, 5))}
            shelf = shelf_of(forms)
            told = plainly_whole(forms, "a")
            if told and told[0] in kinds:
                given = {} if told[0] is TooGreat else {"name": told[1]}
                self.assertEqual(outcome(shelf.whole, "a"), (told[0], given), forms)
                kinds[told[0]] += 1
            else:
                self.assertEqual(shelf.whole("a"), told, forms)
                kinds[None] += 1
        for kind in kinds:
            self.assertGreater(kinds[kind], 50, kind)

    def some_text(self, chance, depth):
        text = ""
        for count in range(chance.choice((0, 1, 1, 2, 3))):
            part = chance.choice(("1", "{x}", "{use b}", "{use c}", "{use d}", "{use e}", "{use f}", "{each x}", "{if x}"))
            if part in ("{each x}", "{if x}"):
                inside = [self.some_text(chance, depth - 1) if depth else "" for form in part.split()]
                text += part + ("{else}".join(inside) if part == "{if x}" else inside[0]) + "{end}"
            else:
                text += part * chance.choice((1, 1, 1, 40))
        return text

    def test_asked_for_what_is_no_name(self):
        shelf = shelf_of({"a": "1"})
        for name in NO_NAMES + ("b", "aa"):
            self.assertEqual(outcome(shelf.whole, name), (NoName, {"name": name}))
            self.assertEqual(outcome(shelf.lets, name), (NoName, {"name": name}))
            self.assertEqual(outcome(shelf.fill, name, {}), (NoName, {"name": name}))
        for thing in OTHERS:
            if not isinstance(thing, str):
                with self.assertRaises(NoName):
                    shelf.whole(thing)

    def test_asked_twice_it_is_the_same(self):
        for forms, name, text in WHOLE:
            shelf = shelf_of(forms)
            self.assertEqual(shelf.whole(name), shelf.whole(name))
            self.assertEqual(shelf.names_there(), sorted(forms))


class LetsAndFillTest(unittest.TestCase):
    def test_let_by_as_its_form_is(self):
        for written, *rest in LOOKED + REFUSED + UNENDED:
            form = read_form(written)
            for forms in ({"a": written}, {"a": "{use c}", "c": written}, {"a": "{use n}{use c}{use n}", "c": written, "n": ""}):
                shelf = shelf_of(forms)
                self.assertEqual(shelf.whole("a"), form)
                self.assertEqual(outcome(shelf.lets, "a"), outcome(let_by, form))
        self.assertIs(shelf_of({"a": "<p>{use c}", "c": "{x}</p>"}).lets("a"), True)

    def test_parts_of_a_page(self):
        shelf = shelf_of({"head": "<p a=\"{x}", "foot": "\">{y}</p>", "page": "{use head}{use foot}"})
        self.assertIs(shelf.lets("page"), True)
        self.assertEqual(shelf.fill("page", {"x": "\"", "y": "<"}), '<p a="&q;">&l;</p>')
        self.assertEqual(outcome(shelf.lets, "head"), (Unended, {"way": (("text", '<p a="'), ("gap", "x"))}))
        self.assertEqual(outcome(shelf.fill, "foot", {}), (Stuck, {"way": (("text", '"'),)}))

    def test_filled_as_its_form_is(self):
        for written, data, *rest in FILLED + NOT_FILLED:
            form = read_form(written)
            for forms in ({"a": written}, {"a": "{use n}{use c}", "c": written, "n": ""}):
                self.assertEqual(outcome(shelf_of(forms).fill, "a", data), outcome(fill_form, form, data))

    def test_what_goes_first(self):
        shelf = shelf_of({"a": ">{x}{use b}", "c": ">{x}", "d": "{x}", "e": "{use e}"})
        self.assertEqual(outcome(shelf.fill, "a", {}), (NoName, {"name": "b"}))
        self.assertEqual(outcome(shelf.fill, "c", {})[0], Stuck)
        self.assertEqual(outcome(shelf.fill, "d", {}), (NoName, {"name": "x"}))
        self.assertEqual(outcome(shelf.fill, "d", {"x": 1}), (NoValue, {"name": "x"}))
        self.assertEqual(outcome(shelf.fill, "e", {}), (Ring, {"name": "e"}))

    def test_forms_in_parts(self):
        maker, data = FormMaker(240), DataMaker(240)
        for count in range(100):
            form = maker.form(2)
            text = show_form(form)
            if len(read_form(text)) > 90:
                continue
            cut = maker.chance.randint(0, len(form))
            shelf = shelf_of({"h": show_form(form[:cut]), "f": show_form(form[cut:]), "w": "{use h}{use f}"})
            if outcome(shelf.whole, "w") == (TooGreat, {}):
                continue
            told = data.data(data.piece)
            self.assertEqual(shelf.whole("w"), plainly_joined(form))
            self.assertIs(shelf.lets("w"), True)
            self.assertEqual(shelf.fill("w", told), fill_form(form, told))

    def test_data_stay(self):
        shelf = shelf_of({"a": "{each l}{x}{end}"})
        told = {"l": [{"x": "a"}, {}], "x": "b"}
        kept = copy.deepcopy(told)
        self.assertEqual(shelf.fill("a", told), "ab")
        self.assertEqual(told, kept)


if __name__ == "__main__":
    unittest.main()
