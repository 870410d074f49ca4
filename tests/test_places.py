"""The places of a form filled by data (point 23)."""

import copy
import unittest

from safegaps.errors import GapsError
from safegaps.fills import fill_form
from safegaps.marks import read_form
from safegaps.pages import read_page
from safegaps.pieces import NumberPiece, PagePiece, PathPiece, Piece
from safegaps.places import gap_places
from safegaps.states import START, go_over
from safegaps.trees import leaves_of
from tests.helping import EVERY_SIGN, FormMaker
from tests.test_fills import AT_KINDS, FILLED, NOT_FILLED, PIECES, DataMaker, PlainlyFilled
from tests.test_looks import REFUSED, UNENDED
from tests.test_pieces import STAYS

# The text of a form, data, and the places.
PLACED = (
    ("", {}, ()),
    ("a<p>b</p>", {}, ()),
    ("{x}", {"x": "a"}, ((0, 0),)),
    ("{x}", {"x": ""}, ((0, 0),)),
    ("a&l;{x}", {"x": "a"}, ((0, 2),)),
    ("{x}{x}{x}", {"x": "<>"}, ((0, 0), (0, 2), (0, 4))),
    ("a<p>{x}</p>{x}", {"x": "a"}, ((1, 0), (2, 0))),
    ("a<p>b{x}<q>c{x}</q>{x}</p>{x}", {"x": "<"}, ((1, 1), (2, 1), (3, 0), (4, 0))),
    ('<p a="b&q;{x}c{x}">{x}</p>{x}', {"x": "\""}, ((1, 2), (1, 4), (2, 0), (3, 0))),
    ('<p a="{x}" b="" c="{x}"></p>', {"x": "a"}, ((1, 0), (3, 0))),
    ('<p to="{x}">{x}</p>', {"x": "/"}, ((1, 0), (2, 0))),
    ('<p to="ab{x}">{x}</p>', {"x": ":"}, ((1, 2), (2, 0))),
    ('<p to="ab:{x}">{x}</p>', {"x": ":"}, ((1, 0), (2, 0))),
    ('<p to="ab:c{x}">{x}</p>', {"x": ":"}, ((1, 1), (2, 0))),
    ('<p to="ab:/c{x}/{x}">{x}</p>', {"x": "?"}, ((2, 1), (3, 0), (4, 0))),
    ('<p to="~20a~3c{x}/b~2f{x}">{x}</p>', {"x": " "}, ((1, 3), (2, 2), (3, 0))),
    ('<p to="{x}?{x}={x};{x};a{x}=b{x}">{x}</p>', {"x": "="}, ((1, 0), (2, 0), (3, 0), (4, 0), (5, 1), (6, 1), (7, 0))),
    ('<p to="?;;~3d{x}">{x}</p>', {"x": ";"}, ((4, 1), (5, 0))),
    ('<p to="?a=b~3bc;{x}" from="{x}">{x}</p>', {"x": ";"}, ((4, 0), (5, 0), (6, 0))),
    ("<code></code>{x}", {"x": "a"}, ((1, 0),)),
    ("a<code>a={x};</code>{x}", {"x": "a"}, ((1, 0), (2, 0))),
    ("<code>a=12+{x}+'b^q{x}'+{x};b={x};</code>{x}", {"x": "'"}, ((2, 0), (3, 2), (4, 0), (5, 0), (6, 0))),
    ("<code>a='{x}{x}';</code>", {"x": "\n<"}, ((1, 0), (1, 2))),
    ('<code a="{x}" to="/{x}">a={x};</code>{x}', {"x": "'"}, ((1, 0), (3, 0), (4, 0), (5, 0))),
    # Pieces that stay, and all that they bring.
    ("{x}", {"x": PagePiece("a")}, (None,)),
    ("{x}{y}", {"x": PagePiece("a&l;"), "y": "b"}, (None, (0, 2))),
    ("{x}{y}", {"x": PagePiece("a<b to=\"c/d?e=f\">g</b>&a;h"), "y": "b"}, (None, (6, 2))),
    ("{x}{y}", {"x": PagePiece("<code>a=1+'b';</code>"), "y": "b"}, (None, (3, 0))),
    ('<p to="{x}{y}">{y}</p>', {"x": PathPiece("a/b~20"), "y": "c"}, (None, (2, 2), (3, 0))),
    ('<p to="{x}{y}">{y}</p>', {"x": PathPiece("/"), "y": "c"}, (None, (2, 0), (3, 0))),
    ('<p to="{x}{y}">{y}</p>', {"x": PathPiece("ab"), "y": "c"}, (None, (1, 2), (2, 0))),
    ('<p to="ab{x}/{y}">{y}</p>', {"x": PathPiece(""), "y": "c"}, (None, (2, 0), (3, 0))),
    ("<code>a={x}+{y}+{x};</code>{y}", {"x": NumberPiece("12"), "y": "c"}, (None, (2, 0), None, (4, 0))),
    # Pieces that do not.
    ('<p a="{x}{y}">{x}{y}</p>', {"x": PagePiece("<b></b>"), "y": "c"}, ((1, 0), (1, 7), None, (4, 0))),
    ("{x}{y}", {"x": PathPiece("a/~20"), "y": "c"}, ((0, 0), (0, 5))),
    ("{x}<code>a='{x}{y}';</code>", {"x": NumberPiece("12"), "y": "c"}, ((0, 0), (1, 0), (1, 2))),
    ("<code>a={x};</code>", {"x": PagePiece("<b></b>")}, ((1, 0),)),
    ("<code>a={x};</code>", {"x": Piece("12")}, ((1, 0),)),
    ("{x}", {"x": Piece("a")}, ((0, 0),)),
    # Choices and eachs.
    ("{if b}{x}a{else}{x}<p></p>{end}{x}", {"b": True, "x": "<"}, ((0, 0), (0, 2))),
    ("{if b}{x}a{else}{x}<p></p>{end}{x}", {"b": False, "x": "<"}, ((0, 0), (2, 0))),
    ("{each l}{x}{end}{x}", {"x": "o", "l": [{"x": "abc"}, {}, {"x": ""}]}, ((0, 0), (0, 3), (0, 4), (0, 4))),
    ("{each l}<p>{x}</p>{end}{x}", {"x": "o", "l": [{}, {}]}, ((1, 0), (3, 0), (4, 0))),
    ("{each l}{x}{end}{x}", {"x": "o", "l": []}, ((0, 0),)),
    ("{each l}<p>{each m}{x},{end}</p>{end}", {"x": "ab", "l": [{}, {"m": [{}]}], "m": [{}, {"x": "c"}]},
     ((1, 0), (1, 3), (3, 0))),
)


def closing(state):
    """What ends a page that is read up to these surroundings, and how many leaves it begins."""
    mode, tags, memo = state
    text, count = "", 0
    if mode == "quoted":
        text = "';"
    elif mode == "done" or mode == "number":
        text = ";"
    elif mode != "text":
        text, count = '">', int(memo != "code")
        tags += (memo,)
    for tag in reversed(tags):
        text += f"</{tag}>"
        count += 1
    return text, count


def place_of(ahead):
    """The leaf in which the next sign behind this beginning of a page would stand, and how many stand ahead of it there.

    At an atom the quote that begins it is put behind.
    """
    state = go_over(START, ahead)[0]
    if state[0] == "atom":
        ahead += "'"
        state = go_over(START, ahead)[0]
    text, count = closing(state)
    leaves = leaves_of(read_page(ahead + text))
    number = len(leaves) - count - 1
    return number, len(leaves[number])


def plain_places(form, data):
    """The places, each found by reading the page up to it."""
    filled = PlainlyFilled(form, data)
    places = []
    for at, kind, told in filled.gaps:
        places.append(None if STAYS.get(told.__class__) == kind else place_of(filled.page[:at]))
    return tuple(places)


class PlacesTest(unittest.TestCase):
    def check(self, form, data):
        """The places are those that the second telling has, and each text stands there."""
        places = gap_places(form, data)
        self.assertEqual(places, plain_places(form, data))
        self.assertIs(places.__class__, tuple)
        leaves = leaves_of(read_page(fill_form(form, data)))
        for place, (at, kind, told) in zip(places, PlainlyFilled(form, data).gaps, strict=True):
            if place is not None:
                self.assertIs(place.__class__, tuple)
                words = told if isinstance(told, str) else told.words
                leaf, start = place
                self.assertEqual(leaves[leaf][start:start + len(words)], words)

    def test_as_the_point_tells(self):
        for written, data, places in PLACED:
            self.assertEqual(gap_places(read_form(written), data), places, written)
            self.check(read_form(written), data)

    def test_forms_that_are_filled(self):
        for written, data, page in FILLED:
            self.check(read_form(written), data)

    def test_each_kind_of_gap(self):
        for kind, ahead, behind in AT_KINDS:
            for told in PIECES + ("", "a", EVERY_SIGN):
                form = read_form(ahead + "{x}" + behind)
                self.check(form, {"x": told})
                page = ahead + "{x}" + behind + ahead + "{y}" + behind + "{y}"
                self.check(read_form(page), {"x": told, "y": "<'"})
                if kind != "atom":
                    self.check(read_form(ahead + "{x}{y}a{x}{y}" + behind), {"x": told, "y": "<'"})

    def test_forms_made_by_chance(self):
        maker, data = FormMaker(230), DataMaker(230)
        count = 0
        for number in range(300):
            form = maker.form(2)
            told = data.data(data.piece)
            if len(fill_form(form, told)) < 600:
                self.check(form, told)
                count += 1
        self.assertGreater(count, 200)

    def test_what_is_handed_in_stays(self):
        for written, data, places in PLACED:
            form = read_form(written)
            pieces = dict(data)
            kept = copy.deepcopy((form, data.get("l"), data.get("m")))
            gap_places(form, data)
            self.assertEqual(data, pieces)
            self.assertEqual((form, data.get("l"), data.get("m")), kept)

    def test_refused_as_filling(self):
        rows = [(written, data) for written, data, kind, name in NOT_FILLED]
        rows += [("{no}" + written, {}) for written, *rest in REFUSED + UNENDED]
        for written, data in rows:
            form = read_form(written)
            self.assertEqual(self.refusal(gap_places, form, data), self.refusal(fill_form, form, data))

    def refusal(self, ask, form, data):
        try:
            ask(form, data)
        except GapsError as refused:
            return refused.__class__, vars(refused)
        self.fail(form)


if __name__ == "__main__":
    unittest.main()
