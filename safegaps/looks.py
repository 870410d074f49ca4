"""Surroundings going through forms without uses, and what is refused on the way.

Each function through_.. is told a node or a form, the surroundings ahead of it and a way that leads to them, and
tells a tuple: the surroundings behind it, a way that leads to these, and the gaps in it. Ways are tuples of texts
and gaps, joined when they are told in a refusal.
"""

from safegaps.errors import NoGap, Stuck, Unended, Unlike
from safegaps.forms import joined_form
from safegaps.states import START, behind_gap, gap_kind, go_over


def look_through(form, state=None):
    """A tuple of the surroundings behind the form and its gaps (name, kind); refuses Stuck, NoGap, Unlike."""
    behind, way, gaps = through_form(form, START if state is None else state, ())
    return (behind, gaps)


def let_by(form):
    """True where each way through the form is the text of a page; refuses Stuck, NoGap, Unlike, Unended."""
    behind, way, gaps = through_form(form, START, ())
    if behind != START:
        raise Unended(joined_form(way))
    return True


def through_text(node, state, way):
    text = node[1]
    behind, count = go_over(state, text)
    if count < len(text):
        raise Stuck(joined_form(way + (("text", text[:count + 1]),)))
    return (behind, way + (node,), ())


def through_gap(node, state, way):
    further = way + (node,)
    kind = gap_kind(state)
    if kind is None:
        raise NoGap(joined_form(further))
    return (behind_gap(state), further, ((node[1], kind),))


def through_choice(node, state, way):
    one, one_way, one_gaps = through_form(node[2], state, way)
    other, other_way, other_gaps = through_form(node[3], state, way)
    if one != other:
        raise Unlike(joined_form(one_way), joined_form(other_way))
    return (one, one_way, one_gaps + other_gaps)


def through_each(node, state, way):
    behind, once, gaps = through_form(node[2], state, way)
    if behind != state:
        raise Unlike(joined_form(way), joined_form(once))
    # Behind it the surroundings are those ahead, so the way may leave it out.
    return (state, way, gaps)


THROUGH_NODES = {"text": through_text, "gap": through_gap, "if": through_choice, "each": through_each}


def through_form(form, state, way):
    here = state
    further = way
    gaps = []
    for node in form:
        through_node = THROUGH_NODES[node[0]]
        here, further, more = through_node(node, here, further)
        gaps.extend(more)
    return (here, further, tuple(gaps))
