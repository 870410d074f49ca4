"""Pieces: texts that are put into gaps, written by the gap's kind or, where they fit, as they are."""

from safegaps.errors import NoPage, NoPiece
from safegaps.pages import read_page
from safegaps.signs import FIGURES, address_written, is_text, page_written, script_written
from safegaps.states import check_led

MOST_FIGURES = 60


def plainly_written(text, kind):
    """The text as it is written at a gap of this kind."""
    if kind in ("text", "value"):
        return page_written(text)
    if kind in ("path", "pair"):
        return address_written(text)
    if kind == "atom":
        return "'" + script_written(text) + "'"
    return script_written(text)


def is_page(text):
    """Whether this is the text of a page."""
    try:
        read_page(text)
    except NoPage:
        return False
    return True


def is_path(text):
    """Whether this is written as segments are, a `/` between two."""
    # The tag's name, here a, is of no account within a path.
    try:
        check_led(("path", (), "a"), text, ("path", "wave", "half"), ("path",))
    except NoPage:
        return False
    return True


def is_number(text):
    """Whether this is one to sixty figures."""
    return 1 <= len(text) <= MOST_FIGURES and all([sign in FIGURES for sign in text])


class Piece:
    """A plain piece, written at each gap by its kind; refuses NoPiece where it is handed no text."""

    def __init__(self, text):
        if not is_text(text):
            raise NoPiece("this is no text")
        self.words = text

    def written(self, kind):
        """The piece as it is written at a gap of this kind."""
        if self.stays(kind):
            return self.words
        return plainly_written(self.words, kind)

    def stays(self, kind):
        """Whether it stays as it is at a gap of this kind."""
        return False


class PagePiece(Piece):
    """The text of a page, which may bring tags of its own."""

    def __init__(self, text):
        Piece.__init__(self, text)
        if not is_page(text):
            raise NoPiece("this is not the text of a page")

    def stays(self, kind):
        """Whether it stays as it is at a gap of this kind."""
        return kind == "text"


class PathPiece(Piece):
    """The text of a path, which may bring segments of its own."""

    def __init__(self, text):
        Piece.__init__(self, text)
        if not is_path(text):
            raise NoPiece("this is not the text of a path")

    def stays(self, kind):
        """Whether it stays as it is at a gap of this kind."""
        return kind == "path"


class NumberPiece(Piece):
    """One to sixty figures, which may be a num of their own."""

    def __init__(self, text):
        Piece.__init__(self, text)
        if not is_number(text):
            raise NoPiece("this is not one to sixty figures")

    def stays(self, kind):
        """Whether it stays as it is at a gap of this kind."""
        return kind == "atom"
