"""Forms, tuples of nodes: whether a thing is one, and forms with their texts joined."""

from safegaps.signs import SMALL, is_text
from safegaps.states import LONGEST_NAME

# How many things a node has, by its kind: the kind, a text or a name, and the forms in it.
NODE_LENGTHS = {"text": 2, "gap": 2, "if": 4, "each": 3, "use": 2}
MARK_WORDS = ("if", "each", "use", "else", "end")


def is_form_name(thing):
    """Whether this, whatever it is, is a name that may stand in a form."""
    if not isinstance(thing, str) or thing in MARK_WORDS:
        return False
    return 1 <= len(thing) <= LONGEST_NAME and all([sign in SMALL for sign in thing])


def is_form(thing):
    """Whether this, whatever it is, is a form."""
    # What waits to be looked at is kept in a list, since things may be nested deeper than calls should be.
    waiting = [thing]
    while len(waiting) > 0:
        form = waiting.pop()
        if not isinstance(form, tuple):
            return False
        for node in form:
            if not is_node(node):
                return False
            waiting.extend(forms_in(node))
    return True


def is_node(thing):
    """Whether this, whatever it is, is a node, leaving open whether what stands for the forms in it is forms."""
    if not isinstance(thing, tuple) or len(thing) == 0 or not isinstance(thing[0], str):
        return False
    if NODE_LENGTHS.get(thing[0]) != len(thing):
        return False
    return is_text(thing[1]) if thing[0] == "text" else is_form_name(thing[1])


def forms_in(node):
    """The forms that the node has in it, in order."""
    return node[2:]


def joined_form(form):
    """The form with neighbouring texts put together and empty ones left out, within its forms, too."""
    nodes = []
    texts = []
    for node in form:
        if node[0] == "text":
            texts.append(node[1])
        else:
            nodes.extend(joined_texts(texts))
            nodes.append(joined_node(node))
            texts = []
    return tuple(nodes + joined_texts(texts))


def joined_texts(texts):
    """A list of the one text node that these make together, or of none where they have no signs."""
    words = "".join(texts)
    return [] if words == "" else [("text", words)]


def joined_node(node):
    """The node, no text, with the forms in it joined."""
    return node[:2] + tuple([joined_form(form) for form in forms_in(node)])
