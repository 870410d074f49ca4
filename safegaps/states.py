"""The surroundings (mode, tags, memo) in which a page is read on, sign by sign, and the gaps in them.

Each function at_.. tells where a sign leads from one mode, with these tags and this memo: to other
surroundings, or to None where the sign cannot stand.
"""

from safegaps.errors import NoPage
from safegaps.signs import FIGURES, PLAIN, SMALL, is_page_sign, is_script_sign, is_waved

START = ("text", (), "")
LONGEST_NAME = 8
ADDRESS_NAMES = ("to", "from")
SCRIPT_TAG = "code"

GAP_KINDS = {
    "text": "text",
    "value": "value",
    "begin": "path",
    "letters": "path",
    "path": "path",
    "key": "pair",
    "val": "pair",
    "atom": "atom",
    "quoted": "quoted",
}
# What is put in never becomes a part of a scheme, and at an atom it is a whole one; elsewhere the mode stays.
MODES_BEHIND_GAPS = {"begin": "path", "letters": "path", "atom": "done"}


def longer_name(mode, tags, memo, sign):
    """The surroundings with the letter put behind the name that the memo is, or None where it is full."""
    if len(memo) < LONGEST_NAME:
        return (mode, tags, memo + sign)
    return None


def tag_ended(tags, name):
    """The surroundings behind the `>` of a tag that begins."""
    mode = "row" if name == SCRIPT_TAG else "text"
    return (mode, tags + (name,), "")


def at_text(tags, memo, sign):
    if sign == "<":
        return ("open", tags, memo)
    if sign == "&":
        return ("amp", tags, memo)
    if is_page_sign(sign):
        return ("text", tags, memo)
    return None


def at_amp(tags, memo, sign):
    if sign in "algq":
        return ("semi", tags, memo)
    return None


def at_semi(tags, memo, sign):
    # Only a value has a memo: the name of the tag that it stands in.
    if sign == ";":
        return ("text" if memo == "" else "value", tags, memo)
    return None


def at_open(tags, memo, sign):
    if sign == "/":
        return ("shut", tags, memo)
    if sign in SMALL:
        return ("tag", tags, sign)
    return None


def at_tag(tags, memo, sign):
    if sign in SMALL:
        return longer_name("tag", tags, memo, sign)
    if sign == " ":
        return ("inner", tags, memo)
    if sign == ">":
        return tag_ended(tags, memo)
    return None


def at_inner(tags, memo, sign):
    if sign in SMALL:
        return ("attr", tags, memo + " " + sign)
    return None


def at_attr(tags, memo, sign):
    if sign == "=":
        return ("quote", tags, memo)
    if sign in SMALL and len(memo.partition(" ")[2]) < LONGEST_NAME:
        return ("attr", tags, memo + sign)
    return None


def at_quote(tags, memo, sign):
    if sign != "\"":
        return None
    names = memo.split(" ")
    return ("begin" if names[1] in ADDRESS_NAMES else "value", tags, names[0])


def at_value(tags, memo, sign):
    if sign == "\"":
        return ("behind", tags, memo)
    if sign == "&":
        return ("amp", tags, memo)
    if is_page_sign(sign):
        return ("value", tags, memo)
    return None


def at_behind(tags, memo, sign):
    if sign == " ":
        return ("inner", tags, memo)
    if sign == ">":
        return tag_ended(tags, memo)
    return None


def at_begin(tags, memo, sign):
    if sign in SMALL:
        return ("letters", tags, memo)
    return at_path(tags, memo, sign)


def at_letters(tags, memo, sign):
    if sign in SMALL:
        return ("letters", tags, memo)
    if sign == ":":
        return ("path", tags, memo)
    return at_path(tags, memo, sign)


def at_path(tags, memo, sign):
    if sign in PLAIN or sign == "/":
        return ("path", tags, memo)
    if sign == "?":
        return ("key", tags, memo)
    return at_address("path", tags, memo, sign)


def at_key(tags, memo, sign):
    if sign in PLAIN or sign == ";":
        return ("key", tags, memo)
    if sign == "=":
        return ("val", tags, memo)
    return at_address("key", tags, memo, sign)


def at_val(tags, memo, sign):
    if sign in PLAIN:
        return ("val", tags, memo)
    if sign == ";":
        return ("key", tags, memo)
    return at_address("val", tags, memo, sign)


def at_address(mode, tags, memo, sign):
    """What all parts of an address share; mode is the one to come back to behind a wave's writing."""
    if sign == "\"":
        return ("behind", tags, memo)
    if sign == "~":
        return ("wave", tags, memo + " " + mode)
    return None


def at_wave(tags, memo, sign):
    if sign in "0234567":
        return ("half", tags, memo + " " + sign)
    return None


def at_half(tags, memo, sign):
    words = memo.split(" ")
    if is_waved(words[2], sign):
        return (words[1], tags, words[0])
    return None


def at_shut(tags, memo, sign):
    if sign in SMALL:
        return longer_name("shut", tags, memo, sign)
    if sign == ">" and len(tags) > 0 and tags[-1] == memo:
        return ("text", tags[:-1], "")
    return None


def at_row(tags, memo, sign):
    if sign in SMALL:
        return ("name", tags, sign)
    if sign == "<":
        return ("close", tags, memo)
    return None


def at_close(tags, memo, sign):
    if sign == "/":
        return ("shut", tags, memo)
    return None


def at_name(tags, memo, sign):
    if sign in SMALL:
        return longer_name("name", tags, memo, sign)
    if sign == "=":
        return ("atom", tags, "")
    return None


def at_atom(tags, memo, sign):
    if sign in FIGURES:
        return ("number", tags, memo)
    if sign == "'":
        return ("quoted", tags, memo)
    return None


def at_number(tags, memo, sign):
    if sign in FIGURES:
        return ("number", tags, memo)
    return at_done(tags, memo, sign)


def at_quoted(tags, memo, sign):
    if sign == "'":
        return ("done", tags, memo)
    if sign == "^":
        return ("hat", tags, memo)
    if is_script_sign(sign):
        return ("quoted", tags, memo)
    return None


def at_hat(tags, memo, sign):
    if sign in "qcln":
        return ("quoted", tags, memo)
    return None


def at_done(tags, memo, sign):
    if sign == "+":
        return ("atom", tags, memo)
    if sign == ";":
        return ("row", tags, memo)
    return None


STEPS = {
    "text": at_text,
    "amp": at_amp,
    "semi": at_semi,
    "open": at_open,
    "tag": at_tag,
    "inner": at_inner,
    "attr": at_attr,
    "quote": at_quote,
    "value": at_value,
    "behind": at_behind,
    "begin": at_begin,
    "letters": at_letters,
    "path": at_path,
    "key": at_key,
    "val": at_val,
    "wave": at_wave,
    "half": at_half,
    "shut": at_shut,
    "row": at_row,
    "close": at_close,
    "name": at_name,
    "atom": at_atom,
    "number": at_number,
    "quoted": at_quoted,
    "hat": at_hat,
    "done": at_done,
}


def go_on(state, sign):
    """The surroundings behind the sign, or None where it cannot stand."""
    step = STEPS[state[0]]
    return step(state[1], state[2], sign)


def go_over(state, text):
    """The surroundings behind all signs that can stand, up to the first one that cannot, and how many these are."""
    here = state
    for at, sign in enumerate(text):
        behind = go_on(here, sign)
        if behind is None:
            return (here, at)
        here = behind
    return (here, len(text))


def check_led(state, text, modes, ends):
    """Refuses NoPage where a sign leads out of these modes, or the text ends at none of ends."""
    here = state
    for at, sign in enumerate(text):
        here = go_on(here, sign)
        if here is None or here[0] not in modes:
            raise NoPage(at)
    if here[0] not in ends:
        raise NoPage(len(text))


def gap_kind(state):
    """The kind of a gap that stands here, or None where none may stand."""
    return GAP_KINDS.get(state[0])


def behind_gap(state):
    """The surroundings behind a gap that stands here, or None where none may stand."""
    mode = state[0]
    if mode not in GAP_KINDS:
        return None
    return (MODES_BEHIND_GAPS.get(mode, mode), state[1], state[2])
