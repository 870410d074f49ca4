"""Forms filled by data: texts or pieces for gaps, truths for choices, lists of dicts for eachs.

A scope is a list of the dicts in which names are looked for, the inmost first.
"""

from safegaps.errors import NoName, NoValue
from safegaps.looks import let_by
from safegaps.pieces import Piece
from safegaps.signs import is_text
from safegaps.states import START, behind_gap, gap_kind, go_over


def fill_form(form, data):
    """The page as a text; refuses Stuck, NoGap, Unlike, Unended, then NoName and NoValue, as they come."""
    return "".join([written_part(kind, thing) for kind, thing in filled_parts(form, data)])


def filled_parts(form, data):
    """The page as a list of (None, text), the form's own text, and (kind, piece), a gap; refuses as fill_form."""
    let_by(form)
    filling = Filling()
    filling.go_along(form, [data])
    return filling.parts


def written_part(kind, thing):
    """The part of a page as it is written."""
    return thing if kind is None else thing.written(kind)


class Filling:
    """A form that is being filled: the surroundings that are come to, and the parts of the page up to there."""

    def __init__(self):
        self.state = START
        self.parts = []

    def go_along(self, form, scope):
        """Goes on along this form; refuses NoName, NoValue."""
        for node in form:
            kind, words = node[:2]
            if kind == "text":
                self.put_words(words)
            elif kind == "gap":
                self.put_piece(told_piece(scope, words))
            elif kind == "if":
                self.go_along(node[2] if told_truth(scope, words) else node[3], scope)
            else:
                for turn in told_turns(scope, words):
                    self.go_along(node[2], [turn] + scope)

    def put_words(self, text):
        """Goes on over a text of the form's own."""
        self.parts.append((None, text))
        behind, count = go_over(self.state, text)
        self.state = behind

    def put_piece(self, piece):
        """Goes on over a gap with this piece in it."""
        self.parts.append((gap_kind(self.state), piece))
        self.state = behind_gap(self.state)


def told(scope, name):
    """What the inmost dict that has this name tells of it; refuses NoName."""
    for names in scope:
        if name in names:
            return names[name]
    raise NoName(name)


def told_piece(scope, name):
    """The piece that is told for a gap; refuses NoName, NoValue."""
    thing = told(scope, name)
    if isinstance(thing, Piece):
        return thing
    if is_text(thing):
        return Piece(thing)
    raise NoValue(name)


def told_truth(scope, name):
    """The truth that is told for a choice; refuses NoName, NoValue."""
    thing = told(scope, name)
    if isinstance(thing, bool):
        return thing
    raise NoValue(name)


def told_turns(scope, name):
    """The list of dicts that is told for an each; refuses NoName, NoValue."""
    thing = told(scope, name)
    if isinstance(thing, list) and all([isinstance(turn, dict) for turn in thing]):
        return thing
    raise NoValue(name)
