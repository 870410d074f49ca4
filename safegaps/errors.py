"""The refusals. None stands under another one, so that each can be taken by its own name."""


class GapsError(ValueError):
    """Any refusal."""


class NoPage(GapsError):
    """A text that is not written as it should be; at counts the signs ahead of the first one that cannot stand."""

    def __init__(self, at):
        GapsError.__init__(self, f"the text cannot be read on behind {at} signs")
        self.at = at


class NoForm(GapsError):
    """Something that is not the text of a form."""


class Stuck(GapsError):
    """A sign that cannot stand where way, a way through a form, comes to it."""

    def __init__(self, way):
        GapsError.__init__(self, f"a sign cannot stand at the end of the way {way!r}")
        self.way = way


class NoGap(GapsError):
    """A gap that cannot stand where way, a way through a form, comes to it."""

    def __init__(self, way):
        GapsError.__init__(self, f"a gap cannot stand at the end of the way {way!r}")
        self.way = way


class Unlike(GapsError):
    """Two ways through a form, one and other, that come to one place with unlike surroundings."""

    def __init__(self, one, other):
        GapsError.__init__(self, f"the ways {one!r} and {other!r} meet with unlike surroundings")
        self.one = one
        self.other = other


class Unended(GapsError):
    """A form whose end is come to, along way, with other surroundings than those of the beginning."""

    def __init__(self, way):
        GapsError.__init__(self, f"the page is not at its end behind the way {way!r}")
        self.way = way


class NoPiece(GapsError):
    """Something that is not the text of such a piece."""


class NoName(GapsError):
    """A name that is not told, or that is none."""

    def __init__(self, name):
        # The name may be anything, even what has no words of its own, so these words leave it out.
        GapsError.__init__(self, "nothing is told of this name")
        self.name = name


class NoValue(GapsError):
    """A name that tells another thing than is needed."""

    def __init__(self, name):
        GapsError.__init__(self, f"the name {name!r} tells no such thing as is needed")
        self.name = name


class NoTree(GapsError):
    """More or fewer leaves than the bones need."""


class Ring(GapsError):
    """A form that would use itself; name is the first name come to again."""

    def __init__(self, name):
        GapsError.__init__(self, f"the form {name!r} would use itself")
        self.name = name


class TooGreat(GapsError):
    """A form with too many nodes, or with nodes that stand too deep."""
