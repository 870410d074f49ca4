"""Forms written as texts, with marks between brackets, and read back."""

from safegaps.errors import NoForm
from safegaps.forms import Joining, forms_in, is_form_name
from safegaps.signs import is_text

BRACKET_WRITINGS = {"{": "{(}", "}": "{)}"}
BRACKET_MARKS = {"(": "{", ")": "}"}


def show_form(form):
    """The form as it is written."""
    return "".join([show_node(node) for node in form])


def show_node(node):
    """The node as it is written."""
    kind, words = node[:2]
    if kind == "text":
        return "".join([BRACKET_WRITINGS.get(sign, sign) for sign in words])
    if kind == "gap":
        return "{" + words + "}"
    if kind == "use":
        return "{use " + words + "}"
    inside = "{else}".join([show_form(form) for form in forms_in(node)])
    return "{" + kind + " " + words + "}" + inside + "{end}"


class Opened:
    """A choice or an each that is read and not ended yet: its forms that are ended, and the one that is not."""

    def __init__(self, kind, name):
        self.kind = kind
        self.name = name
        self.forms = []
        self.joining = Joining()

    def end_form(self):
        """Ends the form that is read, and begins another one."""
        self.forms.append(tuple(self.joining.so_far()))
        self.joining = Joining()

    def go_other(self):
        """Goes on with the other form of a choice; refuses NoForm where there is none or it is already read."""
        if self.kind != "if" or len(self.forms) > 0:
            raise NoForm("this else belongs to no choice")
        self.end_form()

    def ended(self):
        """The node, now that its end is come to."""
        self.end_form()
        if self.kind == "if" and len(self.forms) == 1:
            self.end_form()
        return (self.kind, self.name) + tuple(self.forms)


def read_form(text):
    """The form that is so written, joined; refuses NoForm, of anything."""
    if not is_text(text):
        raise NoForm("this is no text")
    parts = text.split("{")
    # All that is not ended, the inmost last, kept in a list: so marks may stand however deep. The first one is the
    # form itself, which has no mark.
    around = [Opened("", "")]
    take_text(around, parts[0])
    for part in parts[1:]:
        mark, bracket, tail = part.partition("}")
        if bracket == "":
            raise NoForm("this bracket is not closed")
        take_mark(around, mark)
        take_text(around, tail)
    if len(around) > 1:
        raise NoForm("this choice or each is not ended")
    return tuple(around[0].joining.so_far())


def take_text(around, text):
    """Reads what stands up to the next mark; refuses NoForm."""
    if "}" in text:
        raise NoForm("this bracket closes no mark")
    around[-1].joining.put_text(text)


def take_mark(around, mark):
    """Reads what stands between two brackets; refuses NoForm."""
    here = around[-1]
    if mark in BRACKET_MARKS:
        here.joining.put_text(BRACKET_MARKS[mark])
    elif mark == "else":
        here.go_other()
    elif mark == "end":
        take_end(around)
    elif is_form_name(mark):
        here.joining.put_node(("gap", mark))
    else:
        take_words(around, mark)


def take_end(around):
    """Ends the inmost choice or each; refuses NoForm where there is none."""
    if len(around) == 1:
        raise NoForm("this end belongs to nothing")
    node = around.pop().ended()
    around[-1].joining.put_node(node)


def take_words(around, mark):
    """Reads a mark of a word and a name; refuses NoForm where it is none."""
    word, blank, name = mark.partition(" ")
    if word not in ("if", "each", "use") or not is_form_name(name):
        raise NoForm("this is no mark")
    if word == "use":
        around[-1].joining.put_node(("use", name))
    else:
        around.append(Opened(word, name))
