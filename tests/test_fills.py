"""Forms filled by data (point 20)."""

import copy
import itertools
import random
import unittest
from collections import ChainMap

from safegaps.errors import GapsError, NoGap, NoName, NoValue, Stuck, Unended, Unlike
from safegaps.fills import fill_form
from safegaps.looks import let_by
from safegaps.marks import read_form
from safegaps.pages import read_page
from safegaps.pieces import NumberPiece, PagePiece, PathPiece, Piece
from safegaps.states import START, gap_kind, go_over
from tests.helping import ALL_SIGNS, EVERY_SIGN, NO_SIGNS, OTHERS, FormMaker
from tests.test_looks import REFUSED, UNENDED, spoiled
from tests.test_pieces import STAYS, WRITE

# A form with one gap, x, of each kind, and what stands ahead of it and behind it.
AT_KINDS = (
    ("text", "", ""), ("text", "<p>a", "b</p>"), ("value", '<p a="', '"></p>'), ("value", '<p a="b', 'c"></p>'),
    ("path", '<p to="', '"></p>'), ("path", '<p to="ab', '"></p>'), ("path", '<p to="ab:', '/c"></p>'),
    ("path", '<p from="/a/', '?b"></p>'), ("pair", '<p to="?', '"></p>'), ("pair", '<p to="a?b;c', ';d"></p>'),
    ("pair", '<p to="?a=', '"></p>'), ("pair", '<p to="?a=b', 'c;d"></p>'), ("atom", "<code>a=", ";</code>"),
    ("atom", "<code>a=1+", "+'b';</code>"), ("quoted", "<code>a='", "';</code>"), ("quoted", "<code>a='b", "c'+1;</code>"),
)
PIECES = (
    Piece(EVERY_SIGN), Piece(""), Piece("12"), PagePiece(""), PagePiece("<b>c</b>&a;"), PagePiece("12"), PathPiece(""),
    PathPiece("a/b~20"), PathPiece("12"), NumberPiece("12"), NumberPiece("0" * 60),
)
# The text of a form, data, and the page.
FILLED = (
    ("", {}, ""),
    ("a&a;<p></p>", {}, "a&a;<p></p>"),
    ("{(}{)}", {}, "{}"),
    ("{x}", {"x": "<b>"}, "&l;b&g;"),
    ("{x}{x}-{y}", {"x": "a", "y": "&"}, "aa-&a;"),
    ("{x}", {"x": "{x}{if x}"}, "{x}{if x}"),
    ("{x}", {"x": PagePiece("<b>c</b>")}, "<b>c</b>"),
    ('<p a="{x}">{x}</p>', {"x": PagePiece("<b></b>")}, '<p a="&l;b&g;&l;/b&g;"><b></b></p>'),
    ('<a to="/{x}?{x}">{x}</a>', {"x": PathPiece("b/c")}, '<a to="/b/c?b~2fc">b/c</a>'),
    ("<code>a={x}+'{x}'+{y};</code>", {"x": NumberPiece("12"), "y": "12"}, "<code>a=12+'12'+'12';</code>"),
    # Choices.
    ("{if b}x{else}y{end}", {"b": True}, "x"),
    ("{if b}x{else}y{end}", {"b": False}, "y"),
    ("{if b}x{end}", {"b": True}, "x"),
    ("{if b}x{end}", {"b": False}, ""),
    ("{if b}{x}{else}{y}{end}", {"b": True, "x": "<"}, "&l;"),
    ("{if b}{x}{else}{y}{end}", {"b": False, "y": ">"}, "&g;"),
    ("{if b}<p>{else}<p a=\"{x}\">{end}{x}</p>", {"b": False, "x": "\""}, '<p a="&q;">&q;</p>'),
    ("{if b}<p>{else}<p a=\"{x}\">{end}{x}</p>", {"b": True, "x": "\""}, "<p>&q;</p>"),
    ("{if b}{if c}1{else}2{end}{else}{if c}3{else}4{end}{end}", {"b": False, "c": True}, "3"),
    ("{if b}{if b}1{else}2{end}{else}3{end}", {"b": True}, "1"),
    ("<code>a={if b}{x}{else}'{x}'{end};</code>", {"b": True, "x": "'"}, "<code>a='^q';</code>"),
    ("<code>a={if b}{x}{else}'{x}'{end};</code>", {"b": False, "x": "'"}, "<code>a='^q';</code>"),
    # Eachs.
    ("{each l}a{end}", {"l": []}, ""),
    ("{each l}a{end}", {"l": [{}]}, "a"),
    ("{each l}a{end}", {"l": [{}, {}, {}]}, "aaa"),
    ("{each l}<p>{x}</p>{end}", {"l": [{"x": "1"}, {"x": "<"}]}, "<p>1</p><p>&l;</p>"),
    ("{x}{each l}{x}{end}{x}", {"x": "o", "l": [{"x": "1"}, {}, {"x": "2"}]}, "o1o2o"),
    ("{each l}{each m}{x}{y}{z};{end}{end}",
     {"x": "a", "y": "b", "z": "c", "l": [{"y": "d", "m": [{"z": "e"}, {}]}, {"m": [{"x": "f", "y": "g"}]}]},
     "ade;adc;fgc;"),
    ("{each l}{each m}{x}{end};{end}", {"m": [{"x": "1"}, {"x": "2"}], "l": [{}, {"m": []}, {}]}, "12;;12;"),
    ("{each l}{each l}{x}{end}{end}", {"x": "a", "l": [{}, {}]}, "aaaa"),
    ("{each l}{each l}{x}{end};{end}", {"x": "a", "l": [{"l": [{"x": "b"}]}, {"l": []}]}, "b;;"),
    ("{each l}{if b}{x}{else}-{end}{end}", {"b": True, "l": [{"x": "1"}, {"b": False}, {"x": "2"}]}, "1-2"),
    ("{each l}{x}{end}", {"l": [{"x": PagePiece("<b></b>")}, {"x": "<"}]}, "<b></b>&l;"),
    ('<p to="/{each l}{x}/{end}">{each l}{x},{end}</p>', {"l": [{"x": "a b"}, {"x": PathPiece("c/d")}]},
     '<p to="/a~20b/c/d/">a b,c/d,</p>'),
    ("<code>a=1{each l}+{x}+2{end};</code>", {"l": [{"x": "a"}, {"x": NumberPiece("3")}]}, "<code>a=1+'a'+2+3+2;</code>"),
    ("{each l}{x}{end}{each l}{x}{end}", {"l": [{"x": "1"}, {"x": "2"}]}, "1212"),
    ("{if b}{each l}{x}{end}{end}", {"b": True, "l": [{"x": "1"}]}, "1"),
    ("{each l}{x}{end}{x}", {"x": "o", "l": [{"x": "1"}]}, "1o"),
    # Of names that are not come to nothing is asked.
    ("{if b}{x}{else}a{end}", {"b": False}, "a"),
    ("{if b}{x}{else}{each l}{y}{end}{end}", {"b": False, "x": 1, "l": [], "y": None}, ""),
    ("{if b}a{else}{if c}{x}{end}{each l}{end}{end}", {"b": True, "c": 0, "l": ()}, "a"),
    ("{each l}{x}{if b}{y}{end}{end}", {"l": []}, ""),
    ("a", {"x": None, "y": 7, "z": [1, 2]}, "a"),
    ("{each l}{x}{end}", {"x": 1, "l": [{"x": "a", "y": None}]}, "a"),
)
# The text of a form, data, and the refusal with its name.
NOT_FILLED = (
    ("{x}", {}, NoName, "x"),
    ("{x}", {"y": "a"}, NoName, "x"),
    ("{if b}a{end}", {}, NoName, "b"),
    ("{if b}a{end}", {"a": True}, NoName, "b"),
    ("{each l}a{end}", {}, NoName, "l"),
    ("{each l}{x}{end}", {"l": [{}]}, NoName, "x"),
    ("{each l}{x}{end}", {"l": [{"x": "a"}, {"y": "b"}]}, NoName, "x"),
    ("{each l}{x}{end}{x}", {"l": [{"x": "a"}]}, NoName, "x"),
    ("{each l}{each m}{x}{end}{end}", {"l": [{"m": []}, {}]}, NoName, "m"),
    ("{if b}{x}{else}{y}{end}", {"b": True, "y": "a"}, NoName, "x"),
    ("{if b}{x}{else}{y}{end}", {"b": False, "x": "a"}, NoName, "y"),
    ("{x}", {"x": "a\t"}, NoValue, "x"),
    ("{x}", {"x": "%"}, NoValue, "x"),
    ("{x}{y}", {"x": "a", "y": ["a"]}, NoValue, "y"),
    ("{if b}a{end}", {"b": 1}, NoValue, "b"),
    ("{if b}a{end}", {"b": 0}, NoValue, "b"),
    ("{if b}a{end}", {"b": None}, NoValue, "b"),
    ("{if b}a{end}", {"b": "a"}, NoValue, "b"),
    ("{if b}a{end}", {"b": []}, NoValue, "b"),
    ("{each l}a{end}", {"l": ()}, NoValue, "l"),
    ("{each l}a{end}", {"l": ({},)}, NoValue, "l"),
    ("{each l}a{end}", {"l": {}}, NoValue, "l"),
    ("{each l}a{end}", {"l": [1]}, NoValue, "l"),
    ("{each l}a{end}", {"l": [{}, None]}, NoValue, "l"),
    ("{each l}a{end}", {"l": [{}, [("x", "a")]]}, NoValue, "l"),
    ("{each l}a{end}", {"l": "a"}, NoValue, "l"),
    ("{each l}a{end}", {"l": True}, NoValue, "l"),
    ("{each l}{x}{end}", {"x": "a", "l": [{"x": None}]}, NoValue, "x"),
    ("{each l}{x}{end}", {"x": "a", "l": [{}, {"x": 1}]}, NoValue, "x"),
    ("{each l}{if b}{end}{end}", {"b": True, "l": [{"b": "a"}]}, NoValue, "b"),
    # The first one that is come to goes first.
    ("{x}{y}", {}, NoName, "x"),
    ("{x}{y}", {"x": 1}, NoValue, "x"),
    ("{x}{y}", {"x": "a", "y": 1}, NoValue, "y"),
    ("{x}{y}", {"y": 1}, NoName, "x"),
    ("{if b}{x}{end}{y}", {"b": True}, NoName, "x"),
    ("{if b}{x}{end}{y}", {"b": False}, NoName, "y"),
    ("{if b}{x}{end}", {"b": 1}, NoValue, "b"),
    ("{if b}{x}{end}", {}, NoName, "b"),
    ("{each l}{x}{end}{y}", {"l": []}, NoName, "y"),
    ("{each l}{x}{end}{y}", {"l": [{}]}, NoName, "x"),
    ("{each l}{x}{end}", {}, NoName, "l"),
    ("{each l}{x}{end}", {"l": [{}, 1]}, NoValue, "l"),
    ("{each l}{x}{end}", {"l": [{"x": 1}, 1]}, NoValue, "l"),
    ("{each l}{x}{y}{end}", {"y": "a", "l": [{"x": "a", "y": 1}, {}]}, NoValue, "y"),
    ("{each l}{x}{y}{end}", {"y": "a", "l": [{"x": "a"}, {"y": 1}]}, NoName, "x"),
    ("{each l}{each m}{x}{end}{end}", {"l": [{"m": [{"x": "a"}, 1]}]}, NoValue, "m"),
    ("{each l}{each m}{x}{end}{end}", {"l": [{"m": [{"x": "a"}]}, {"m": ()}]}, NoValue, "m"),
)
SOME_PIECES = (
    PagePiece("<b to=\"c/d?e\">f</b>g"), PagePiece("<code>a='x'+1;b=2;</code>"), PagePiece("&l;h"), PathPiece("i/~2f~3cj"),
    PathPiece("k//"), PathPiece(""), NumberPiece("12"), NumberPiece("007"),
)
STAND_INS = {"text": "a", "value": "a", "path": "A", "pair": "a", "atom": "''", "quoted": "a"}


class PlainlyFilled:
    """A form filled as point 20 tells, the kinds of its gaps found by reading the page with stand-ins for the pieces.

    gaps: for each gap that is filled, how many signs of the page stand ahead of it, its kind and what was told for it.
    """

    def __init__(self, form, data):
        self.page = ""
        self.state = START
        self.gaps = []
        self.go(form, ChainMap(data))

    def go(self, form, names):
        for node in form:
            if node[0] == "text":
                self.page += node[1]
                self.state = go_over(self.state, node[1])[0]
            elif node[0] == "gap":
                self.put(names[node[1]])
            elif node[0] == "if":
                self.go(node[2 if names[node[1]] else 3], names)
            else:
                for turn in names[node[1]]:
                    self.go(node[2], names.new_child(turn))

    def put(self, told):
        kind = gap_kind(self.state)
        self.gaps.append((len(self.page), kind, told))
        if STAYS.get(told.__class__) == kind:
            self.page += told.words
        else:
            self.page += WRITE[kind](told if isinstance(told, str) else told.words)
        self.state = go_over(self.state, STAND_INS[kind])[0]


class DataMaker:
    """Makes data for the forms of a FormMaker, by chance, the same ones in every run."""

    def __init__(self, seed):
        self.chance = random.Random(seed)

    def text(self):
        length = self.chance.choice((0, 1, 1, 2, 5, 9))
        return "".join(self.chance.choice("<>\"&'^~/;=?:\n" + EVERY_SIGN) for count in range(length))

    def piece(self):
        if self.chance.random() < 0.4:
            return self.text()
        return self.chance.choice((Piece(self.text()),) + SOME_PIECES)

    def data(self, make, depth=2):
        """Data that tell all names; make makes what is told for gaps."""
        told = {name: make() for name in "abcde"}
        told |= {name: self.chance.random() < 0.5 for name in "pqr"}
        return told | {name: self.turns(make, depth) for name in "lmn"}

    def turns(self, make, depth):
        if depth == 0:
            return []
        return [self.turn(make, depth - 1) for count in range(self.chance.choice((0, 1, 1, 2)))]

    def turn(self, make, depth):
        told = self.data(make, depth)
        return {name: told[name] for name in self.chance.sample(sorted(told), self.chance.randint(0, len(told)))}


def refusal(form, data):
    try:
        fill_form(form, data)
    except GapsError as refused:
        return refused
    return None


class FilledTest(unittest.TestCase):
    def test_as_the_point_tells(self):
        for written, data, page in FILLED:
            self.assertEqual(fill_form(read_form(written), data), page, written)
            self.assertIs(fill_form(read_form(written), data).__class__, str)

    def test_texts_at_each_kind_of_gap(self):
        for kind, ahead, behind in AT_KINDS:
            form = read_form(ahead + "{x}" + behind)
            for told in ALL_SIGNS + ["", EVERY_SIGN, "a" * 200, "<p>", "it's", "&a;", "~20", "^q", "'+1;", "\"></p>"]:
                page = fill_form(form, {"x": told})
                self.assertEqual(page, ahead + WRITE[kind](told) + behind)
                read_page(page)

    def test_pieces_at_each_kind_of_gap(self):
        for kind, ahead, behind in AT_KINDS:
            form = read_form(ahead + "{x}" + behind)
            for piece in PIECES:
                stays = STAYS[piece.__class__] == kind
                page = fill_form(form, {"x": piece})
                self.assertEqual(page, ahead + (piece.words if stays else WRITE[kind](piece.words)) + behind)
                read_page(page)

    def test_neighbouring_gaps(self):
        for kind, ahead, behind in AT_KINDS:
            if kind != "atom":
                page = fill_form(read_form(ahead + "{x}{y}{x}" + behind), {"x": "<'", "y": "\n&"})
                self.assertEqual(page, ahead + WRITE[kind]("<'\n&<'") + behind)

    def test_a_form_that_is_not_joined(self):
        form = (("text", "<"), ("text", ""), ("text", "p>"), ("gap", "x"), ("text", ""), ("text", "</p>"))
        self.assertEqual(fill_form(form, {"x": "&"}), "<p>&a;</p>")

    def test_part_by_part(self):
        told = {"x": "<", "y": "&", "z": ">", "b": True, "c": False, "l": [{"x": "1"}, {}], "m": [{}]}
        parts = [read_form(written) for written, data, page in FILLED if not written.count("{each l}{each")]
        for one, other in itertools.product(parts, repeat=2):
            self.assertEqual(fill_form(one + other, told), fill_form(one, told) + fill_form(other, told))

    def test_cut_at_each_node(self):
        maker, data = FormMaker(20), DataMaker(20)
        cuts = 0
        for count in range(100):
            form = maker.form(2)
            told = data.data(data.piece)
            for cut in range(len(form) + 1):
                try:
                    let_by(form[:cut])
                except Unended:
                    continue
                cuts += 1
                self.assertEqual(fill_form(form, told), fill_form(form[:cut], told) + fill_form(form[cut:], told))
        self.assertGreater(cuts, 150)

    def test_forms_and_data_made_by_chance(self):
        maker, data = FormMaker(21), DataMaker(21)
        for count in range(400):
            form = maker.form()
            told = data.data(data.piece)
            page = fill_form(form, told)
            self.assertEqual(page, PlainlyFilled(form, told).page)
            read_page(page)

    def test_what_is_handed_in_stays(self):
        maker, data = FormMaker(22), DataMaker(22)
        for count in range(100):
            form = maker.form()
            told = data.data(data.text)
            kept = copy.deepcopy((form, told))
            fill_form(form, told)
            self.assertEqual((form, told), kept)
        piece = PagePiece("<p></p>")
        told = {"x": piece, "l": [{"x": piece}]}
        fill_form(read_form('{x}{each l}<p a="{x}"></p>{end}'), told)
        self.assertIs(told["x"], piece)
        self.assertEqual(piece.words, "<p></p>")
        self.assertEqual(list(told), ["x", "l"])

    def test_filled_twice_it_is_the_same(self):
        for written, data, page in FILLED:
            form = read_form(written)
            self.assertEqual(fill_form(form, data), fill_form(form, data))

    def test_many_turns(self):
        form = read_form("{each l}{each m}{x}{end}{end}")
        told = {"l": [{}] * 40, "m": [{"x": str(count % 10)} for count in range(50)]}
        self.assertEqual(fill_form(form, told), "0123456789" * 200)

    def test_eight_deep_and_somewhat_more(self):
        for depth in (8, 12, 40):
            form = (("gap", "x"),)
            for count in range(depth - 1):
                form = (("text", "<p>"), ("each", "l", form), ("text", "</p>")) if count % 2 else (("if", "b", form, ()),)
            tags = (depth - 1) // 2
            self.assertEqual(fill_form(form, {"b": True, "x": "<", "l": [{}]}), "<p>" * tags + "&l;" + "</p>" * tags)


class RefusedTest(unittest.TestCase):
    def test_as_the_point_tells(self):
        for written, data, kind, name in NOT_FILLED:
            refused = refusal(read_form(written), data)
            self.assertIs(refused.__class__, kind, (written, data))
            self.assertEqual(refused.name, name, (written, data))

    def test_a_form_that_is_refused_goes_ahead_of_all_names(self):
        for written, kind, *ways in REFUSED:
            for start in ("", "{no}", "{if no}{no}{end}", "{each no}{no}{end}"):
                for data in ({}, {"no": 1, "x": None, "y": 7, "b": 0, "l": ()}):
                    refused = refusal(read_form(start + written), data)
                    self.assertIs(refused.__class__, kind)
            told = [refusal(read_form(written), {})]
            told = [told[0].one, told[0].other] if kind is Unlike else [told[0].way]
            self.assertEqual(told, ways)
        for written, way in UNENDED:
            refused = refusal(read_form("{if no}a{else}a{end}" + written), {})
            self.assertIs(refused.__class__, Unended)
            self.assertEqual(refusal(read_form(written), {}).way, way)

    def test_spoiled_forms(self):
        maker = FormMaker(23)
        kinds = {Stuck: 0, NoGap: 0, Unlike: 0, Unended: 0}
        for count in range(500):
            form = spoiled(maker.chance, maker.form())
            try:
                let_by(form)
            except GapsError as told:
                refused = refusal(form, {})
                self.assertIs(refused.__class__, told.__class__)
                self.assertEqual(vars(refused), vars(told))
                kinds[told.__class__] += 1
        for kind in kinds:
            self.assertGreater(kinds[kind], 3)

    def test_what_is_no_text_and_no_piece(self):
        others = [thing for thing in OTHERS if not isinstance(thing, str)] + [Piece, PagePiece, ("a",), ["a"], {"x": "a"}]
        others += [sign for sign in NO_SIGNS] + ["a" + sign for sign in NO_SIGNS]
        for kind, ahead, behind in AT_KINDS:
            for thing in others:
                refused = refusal(read_form(ahead + "{x}" + behind), {"x": thing})
                self.assertIs(refused.__class__, NoValue)
                self.assertEqual(refused.name, "x")

    def test_what_is_no_truth(self):
        for thing in OTHERS + (Piece("a"), "True", [True], (True,), {"b": True}):
            if thing is not True and thing is not False:
                refused = refusal(read_form("{if b}{x}{else}{y}{end}"), {"b": thing, "x": "a", "y": "a"})
                self.assertIs(refused.__class__, NoValue)
                self.assertEqual(refused.name, "b")

    def test_what_is_no_list_of_dicts(self):
        for thing in OTHERS + (Piece("a"), ({},), ({"x": "a"},), {"x": "a"}):
            if isinstance(thing, list) and not thing:
                continue
            refused = refusal(read_form("{each l}{x}{end}"), {"l": thing, "x": "a"})
            self.assertIs(refused.__class__, NoValue)
            self.assertEqual(refused.name, "l")

    def test_lists_in_which_one_thing_is_no_dict(self):
        for thing in OTHERS + ("a", Piece("a"), ("x", "a"), [], [{}]):
            if not isinstance(thing, dict):
                for things in ([thing], [{"x": "a"}, thing], [thing, {"x": "a"}], [{}, {}, thing]):
                    refused = refusal(read_form("{each l}{x}{end}"), {"l": things})
                    self.assertIs(refused.__class__, NoValue)
                    self.assertEqual(refused.name, "l")

    def test_names_by_chance(self):
        """Of the names that a form comes to, whichever is left out or tells a wrong thing is refused."""
        maker, data = FormMaker(24), DataMaker(24)
        kinds = {NoName: 0, NoValue: 0, None: 0}
        for count in range(600):
            form = maker.form()
            told = data.data(data.piece, 0)
            name = maker.chance.choice("abcdepqrlmn")
            met = self.first_met(form, told)
            if maker.chance.random() < 0.5:
                kind, wrong = NoName, {other: told[other] for other in told if other != name}
            else:
                kind, wrong = NoValue, told | {name: maker.chance.choice((None, 1, 0, (), {}, [1], "\t"))}
            refused = refusal(form, wrong)
            if name in met:
                self.assertIs(refused.__class__, kind)
                self.assertEqual(refused.name, name)
                kinds[kind] += 1
            else:
                self.assertIsNone(refused)
                kinds[None] += 1
        for kind in kinds:
            self.assertGreater(kinds[kind], 30)

    def first_met(self, form, told):
        """The names that are come to with these data, in which all lists have no things."""
        names = []
        for node in form:
            if node[0] != "text":
                names.append(node[1])
            if node[0] == "if":
                names.extend(self.first_met(node[2 if told[node[1]] else 3], told))
        return names

    def test_what_is_handed_in_stays(self):
        for written, data, kind, name in NOT_FILLED:
            kept = copy.deepcopy(data)
            refusal(read_form(written), data)
            self.assertEqual(data, kept)


if __name__ == "__main__":
    unittest.main()
