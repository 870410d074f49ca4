"""The places of a form's gaps: in which leaf of the page each text stands, and behind how many signs."""

from safegaps.fills import filled_parts, written_part
from safegaps.signs import PLAIN
from safegaps.states import START, go_on

# The signs that begin a leaf, by the mode in which they are read; a `>` to a script begins none.
LEAF_SIGNS = {
    "tag": ">",
    "behind": ">",
    "shut": ">",
    "quote": "\"",
    "begin": "/?",
    "letters": "/?",
    "path": "/?",
    "key": ";=",
    "val": ";",
    "atom": "'0123456789",
}


def gap_places(form, data):
    """A tuple with (leaf, start), or None for a piece that stays, for each gap that is filled; refuses as fill_form."""
    counting = Counting()
    places = []
    for kind, thing in filled_parts(form, data):
        if kind is not None:
            places.append(None if thing.stays(kind) else counting.place(kind))
        counting.read_on(written_part(kind, thing))
    return tuple(places)


class Counting:
    """A page that is being read: the surroundings come to, the last leaf, and how many signs of it (no num's)."""

    def __init__(self):
        self.state = START
        self.leaf = 0
        self.start = 0

    def place(self, kind):
        """The place of a text at a gap of this kind."""
        if kind == "atom":
            return (self.leaf + 1, 0)
        return (self.leaf, self.start)

    def read_on(self, text):
        """Reads this text."""
        for sign in text:
            self.read_sign(sign)

    def read_sign(self, sign):
        """Reads this sign."""
        ahead = self.state[0]
        self.state = go_on(self.state, sign)
        behind = self.state[0]
        if sign in LEAF_SIGNS.get(ahead, "") and behind != "row":
            self.leaf = self.leaf + 1
            self.start = 0
        elif ahead == "letters" and sign == ":":
            # What was taken for the first segment is the scheme, which is no leaf.
            self.start = 0
        if is_read(ahead, sign, behind):
            self.start = self.start + 1


def is_read(ahead, sign, behind):
    """Whether a sign of a leaf is read by this one, which leads from one of these modes to the other."""
    # A writing of several signs is one sign of the leaf, and is read by its last one. No gap stands behind figures of
    # a num, so these need not be counted.
    if ahead in ("semi", "half", "hat"):
        return True
    if ahead in ("begin", "letters", "path", "key", "val"):
        return sign in PLAIN
    return ahead in ("text", "value", "quoted") and behind == ahead
