"""Pieces, what they take and how they are written at gaps of each kind (point 19)."""

import unittest

from safegaps.errors import GapsError, NoPage, NoPiece
from safegaps.pages import read_page
from safegaps.pieces import NumberPiece, PagePiece, PathPiece, Piece
from safegaps.states import go_over
from tests.helping import (
    ALL_PLAIN, ALL_SIGNS, EVERY_SIGN, NO_SIGNS, OTHERS, FormMaker, for_address, for_page, for_script, wave,
)
from tests.test_pages import TOLD
from tests.test_states import BARRED

KINDS = ("text", "value", "path", "pair", "atom", "quoted")
CLASSES = (Piece, PagePiece, PathPiece, NumberPiece)
STAYS = {Piece: None, PagePiece: "text", PathPiece: "path", NumberPiece: "atom"}
WRITE = {
    "text": for_page,
    "value": for_page,
    "path": for_address,
    "pair": for_address,
    "atom": lambda text: f"'{for_script(text)}'",
    "quoted": for_script,
}
TEXTS = (
    "", "a", "a b", "<p>", "</p>", "&", "&a;", "a/b", "~20", "it's", "^", "1", "12", "\n", "a=1;", "{x}", "\"", EVERY_SIGN,
    "x" * 4000,
)
PAGES = (
    "", "a", "&l;", "<p></p>", "a<p to=\"x?y=z\">b</p>c", "<code>a=1+'x>y';</code>", "\n", "'^~{}", "12", "a/b",
    "<p>" * 30 + "</p>" * 30,
)
NO_PAGES = (
    "<", ">", "\"", "&", "a&", "&a", "&x;", "<p>", "</p>", "<p></q>", "<p", "<p a=\"b\"", "a<p>b", "<code>a=1</code>", "<p/>",
    "<code>", "<p></p></p>", "<P></P>", "<p a=b></p>", "<p  a=\"b\"></p>", "<p><b></p></b>", "<p to=\"a b\"></p>",
)
PATHS = ("", "a", "/", "//", "a/b", "/a/b/", "~20", "~2f", "~61", "~0a", "a~20b/c~7e", "-._", "1", "12", "A/Z", "http")
NO_PATHS = (
    "~", "~2", "a~", "~/", "~2/0", "~2g", "~1f", "~0b", "~25", "~7f", "~80", "~A0", "~2A", "~ ", "~20~", ":", "http:",
    "a:b", "?", "a?b", "=", ";", "a;b", " ", "a b", "\n", "<", "&a;", "'", "\"", "~~", "a\n", "{", "+", "~2f~2",
)
NUMBERS = ("0", "1", "9", "00", "007", "12", "0123456789", "1" * 59, "1" * 60, "0" * 60)
NO_NUMBERS = (
    "", "1" * 61, "1" * 62, "0" * 100, "a", "1a", "a1", "-1", "+1", "1.0", "1 ", " 1", "1\n", "\n", "1,0", "1_0", "1e5", "0x1",
    "'1'",
)


def refused(make, thing):
    try:
        make(thing)
    except NoPiece as refusal:
        return refusal.__class__ is NoPiece
    return False


class TakenTest(unittest.TestCase):
    def assert_taken(self, make, text):
        piece = make(text)
        self.assertEqual(piece.words, text)
        self.assertIs(piece.words.__class__, str)
        self.assertIs(piece.__class__, make)

    def test_classes(self):
        for make in (PagePiece, PathPiece, NumberPiece):
            self.assertTrue(issubclass(make, Piece))
            self.assertEqual(make.__bases__, (Piece,))
        self.assertFalse(issubclass(NoPiece, NoPage))
        self.assertTrue(issubclass(NoPiece, GapsError))

    def test_plain_pieces(self):
        for text in TEXTS + PAGES + NO_PAGES + PATHS + NO_PATHS + NUMBERS + NO_NUMBERS + tuple(ALL_SIGNS):
            self.assert_taken(Piece, text)

    def test_page_pieces(self):
        for text in PAGES:
            self.assert_taken(PagePiece, text)
        for text in NO_PAGES:
            self.assertTrue(refused(PagePiece, text), text)
        for content, text in TOLD:
            self.assert_taken(PagePiece, text)
            for cut in range(len(text)):
                try:
                    read_page(text[:cut])
                except NoPage:
                    self.assertTrue(refused(PagePiece, text[:cut]), text[:cut])
                else:
                    self.assert_taken(PagePiece, text[:cut])

    def test_page_pieces_that_are_barred(self):
        for text, at, state in BARRED:
            self.assertTrue(refused(PagePiece, text), text)

    def test_path_pieces(self):
        for text in PATHS:
            self.assert_taken(PathPiece, text)
        for text in NO_PATHS:
            self.assertTrue(refused(PathPiece, text), text)

    def test_path_pieces_of_each_sign(self):
        for sign in ALL_SIGNS:
            for text in (sign, "a" + sign, sign + "/b", "~20" + sign):
                if sign in ALL_PLAIN or sign == "/":
                    self.assert_taken(PathPiece, text)
                else:
                    self.assertTrue(refused(PathPiece, text), text)
            self.assert_taken(PathPiece, wave(sign))
            self.assert_taken(PathPiece, "a/" + wave(sign) + wave(sign) + "/b")
            self.assertTrue(refused(PathPiece, wave(sign)[:2]))
        self.assert_taken(PathPiece, "/" * 4000)
        self.assert_taken(PathPiece, "~20" * 1333)

    def test_number_pieces(self):
        for text in NUMBERS:
            self.assert_taken(NumberPiece, text)
        for text in NO_NUMBERS:
            self.assertTrue(refused(NumberPiece, text), text)
        for sign in ALL_SIGNS:
            self.assertEqual(refused(NumberPiece, sign), sign not in "0123456789")
            self.assertEqual(refused(NumberPiece, "1" + sign + "2"), sign not in "0123456789")

    def test_signs_that_are_none(self):
        for make in CLASSES:
            for sign in NO_SIGNS:
                for text in (sign, "1" + sign, sign + "1", "1" + sign + "1"):
                    self.assertTrue(refused(make, text), (make, text))
        for figures in ("\u0661", "\u00b2", "1\u0661", "\uff11"):
            self.assertTrue(refused(NumberPiece, figures))
            self.assertTrue(refused(Piece, figures))

    def test_what_is_no_text(self):
        for make in CLASSES:
            for thing in OTHERS + (12, ["1"], ("1",), b"1", {"1": "1"}, Piece, Piece("1"), NumberPiece("1")):
                if not isinstance(thing, str):
                    self.assertTrue(refused(make, thing), (make, thing.__class__))


class WrittenTest(unittest.TestCase):
    def check(self, piece):
        for kind in KINDS:
            stays = STAYS[piece.__class__] == kind
            self.assertIs(piece.stays(kind), stays)
            told = piece.words if stays else WRITE[kind](piece.words)
            self.assertEqual(piece.written(kind), told, (piece.__class__, kind))
            self.assertIs(piece.written(kind).__class__, str)

    def test_plain_pieces(self):
        for text in TEXTS + PAGES + PATHS + NUMBERS + tuple(ALL_SIGNS):
            self.check(Piece(text))

    def test_page_pieces(self):
        for text in PAGES:
            self.check(PagePiece(text))

    def test_path_pieces(self):
        for text in PATHS:
            self.check(PathPiece(text))

    def test_number_pieces(self):
        for text in NUMBERS:
            self.check(NumberPiece(text))

    def test_as_the_point_tells(self):
        piece = Piece("<a b='c'>&\n")
        self.assertEqual(piece.written("text"), "&l;a b='c'&g;&a;\n")
        self.assertEqual(piece.written("value"), "&l;a b='c'&g;&a;\n")
        self.assertEqual(piece.written("path"), "~3ca~20b~3d~27c~27~3e~26~0a")
        self.assertEqual(piece.written("pair"), "~3ca~20b~3d~27c~27~3e~26~0a")
        self.assertEqual(piece.written("quoted"), "^la b=^qc^q>&^n")
        self.assertEqual(piece.written("atom"), "'^la b=^qc^q>&^n'")
        self.assertEqual(PagePiece("<p>&a;</p>").written("text"), "<p>&a;</p>")
        self.assertEqual(PagePiece("<p>&a;</p>").written("value"), "&l;p&g;&a;a;&l;/p&g;")
        self.assertEqual(PathPiece("a/~20").written("path"), "a/~20")
        self.assertEqual(PathPiece("a/~20").written("pair"), "a~2f~7e20")
        self.assertEqual(NumberPiece("12").written("atom"), "12")
        self.assertEqual(NumberPiece("12").written("quoted"), "12")
        self.assertEqual(NumberPiece("12").written("text"), "12")
        self.assertEqual(Piece("12").written("atom"), "'12'")

    def test_written_again_it_is_the_same(self):
        piece = PagePiece("<p>a</p>")
        for count in range(2):
            for kind in KINDS:
                self.assertEqual(piece.written(kind), PagePiece("<p>a</p>").written(kind))
        self.assertEqual(piece.words, "<p>a</p>")

    def test_written_it_may_stand_at_its_gap(self):
        maker = FormMaker(19)
        for kind, state, behind in (
            ("text", ("text", ("p",), ""), ("text",)), ("value", ("value", (), "p"), ("value",)),
            ("path", ("begin", (), "p"), ("begin", "letters", "path")), ("path", ("path", (), "p"), ("path",)),
            ("pair", ("key", (), "p"), ("key",)), ("pair", ("val", (), "p"), ("val",)),
            ("atom", ("atom", ("code",), ""), ("done", "number")), ("quoted", ("quoted", ("code",), ""), ("quoted",)),
        ):
            pieces = [Piece(text) for text in TEXTS] + [Piece(maker.words()) for count in range(200)]
            pieces += [PagePiece(text) for text in PAGES] + [PathPiece(text) for text in PATHS]
            pieces += [NumberPiece(text) for text in NUMBERS]
            for piece in pieces:
                text = piece.written(kind)
                led, count = go_over(state, text)
                self.assertEqual(count, len(text))
                self.assertIn(led[0], behind)
                self.assertEqual(led[1:], state[1:])


if __name__ == "__main__":
    unittest.main()
