"""Shelves, which keep forms by names, and forms told whole, with each use in its place the form that it uses."""

from safegaps.errors import NoName, Ring, TooGreat
from safegaps.fills import fill_form
from safegaps.forms import forms_in, is_form_name, joined_form
from safegaps.looks import let_by
from safegaps.marks import read_form

MOST_NODES = 200
DEEPEST = 8
# Stands behind the nodes of a form that is used, where its name is left again.
USE_END = ("end", "")


class Growing:
    """A form that is being made whole: how many nodes are come to, and the names of the forms that it is within."""

    def __init__(self, forms):
        self.forms = forms
        self.count = 0
        self.names = []

    def begin_use(self, name):
        """The form of this name, which is gone into now; refuses NoName, Ring."""
        if not is_form_name(name) or name not in self.forms:
            raise NoName(name)
        if name in self.names:
            raise Ring(name)
        self.names.append(name)
        return self.forms[name]

    def come_to_node(self, depth):
        """Counts a node that stands so deep; refuses TooGreat."""
        self.count = self.count + 1
        if self.count > MOST_NODES or depth > DEEPEST:
            raise TooGreat("the form has too many nodes, or nodes that stand too deep")

    def grown(self, form, depth):
        """The form, whose nodes stand so deep, without uses; refuses NoName, Ring, TooGreat."""
        nodes = []
        # The nodes to come, the next one last: so uses may stand in one another however many times.
        waiting = list(reversed(form))
        while len(waiting) > 0:
            node = waiting.pop()
            if node == USE_END:
                self.names.pop()
                continue
            self.come_to_node(depth)
            if node[0] == "use":
                waiting.append(USE_END)
                waiting.extend(list(reversed(self.begin_use(node[1]))))
            else:
                nodes.append(node[:2] + tuple([self.grown(inner, depth + 1) for inner in forms_in(node)]))
        return tuple(nodes)


class Shelf:
    """Keeps forms by names."""

    def __init__(self):
        self.forms = {}

    def put(self, name, text):
        """Keeps the form that the text writes by this name; refuses NoName, NoForm."""
        if not is_form_name(name):
            raise NoName(name)
        self.forms[name] = read_form(text)

    def whole(self, name):
        """The form of this name without uses, joined; refuses NoName, Ring, TooGreat."""
        growing = Growing(self.forms)
        return joined_form(growing.grown(growing.begin_use(name), 1))

    def lets(self, name):
        """True where the form of this name is let by; refuses as whole, then as let_by."""
        return let_by(self.whole(name))

    def fill(self, name, data):
        """The page of the form of this name; refuses as whole, then as fill_form."""
        return fill_form(self.whole(name), data)

    def names_there(self):
        """A list of the names, rising."""
        return sorted(self.forms)
