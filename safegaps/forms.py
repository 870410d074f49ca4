"""Forms, tuples of nodes: whether a thing is one, and forms with their texts joined."""

from safegaps.signs import SMALL, is_text
from safegaps.states import LONGEST_NAME

# How many things a node has, by its kind: the kind, a text or a name, and the forms in it.
NODE_LENGTHS = {"text": 2, "gap": 2, "if": 4, "each": 3, "use": 2}
MARK_WORDS = ("if", "each", "use", "else", "end")


def is_form_name(thing):
    """Whether this, whatever it is, is a name that may stand in a form."""
    if not isinstance(thing, str) or thing in MARK_WORDS:
        return False
    return 1 <= len(thing) <= LONGEST_NAME and all([sign in SMALL for sign in thing])


def is_form(thing):
    """Whether this, whatever it is, is a form."""
    # What waits to be looked at is kept in a list, since things may be nested deeper than calls should be.
    waiting = [thing]
    while len(waiting) > 0:
        form = waiting.pop()
        if not isinstance(form, tuple):
            return False
        for node in form:
            if not is_node(node):
                return False
            waiting.extend(forms_in(node))
    return True


def is_node(thing):
    """Whether this, whatever it is, is a node, leaving open whether what stands for the forms in it is forms."""
    if not isinstance(thing, tuple) or len(thing) == 0 or not isinstance(thing[0], str):
        return False
    if NODE_LENGTHS.get(thing[0]) != len(thing):
        return False
    return is_text(thing[1]) if thing[0] == "text" else is_form_name(thing[1])


def forms_in(node):
    """The forms that the node has in it, in order."""
    return node[2:]


class Joining:
    """A form that is put together from the left, its texts joined."""

    def __init__(self):
        self.nodes = []
        self.texts = []

    def put_text(self, text):
        """Puts a text behind what is there."""
        self.texts.append(text)

    def put_node(self, node):
        """Puts a node, no text, behind what is there."""
        self.nodes = self.so_far()
        self.nodes.append(node)
        self.texts = []

    def so_far(self):
        """A list of the nodes that are there."""
        words = "".join(self.texts)
        return self.nodes + ([] if words == "" else [("text", words)])


def joined_form(form):
    """The form with neighbouring texts put together and empty ones left out, within its forms, too."""
    joining = Joining()
    for node in form:
        if node[0] == "text":
            joining.put_text(node[1])
        else:
            joining.put_node(node[:2] + tuple([joined_form(inner) for inner in forms_in(node)]))
    return tuple(joining.so_far())
