"""Surroundings going through forms, and the ways that are told in refusals (points 16, 17, 18)."""

import copy
import random
import unittest

from safegaps.errors import GapsError, NoGap, Stuck, Unended, Unlike
from safegaps.forms import is_form
from safegaps.looks import let_by, look_through
from safegaps.marks import read_form
from safegaps.states import START, behind_gap, gap_kind, go_on, go_over
from tests.helping import ALL_SIGNS, FormMaker, plainly_joined


def text(words):
    return ("text", words)


X = ("gap", "x")
Y = ("gap", "y")
IN_P = ("text", ("p",), "")

# The text of a form, the surroundings behind it, from the beginning, and its gaps.
LOOKED = (
    ("", START, ()),
    ("a", START, ()),
    ("<p", ("tag", (), "p"), ()),
    ("<p>", IN_P, ()),
    ("<p>a</p>", START, ()),
    ("{x}", START, (("x", "text"),)),
    ("<p>{x}", IN_P, (("x", "text"),)),
    ("<p>{x}b{y}{x}</p>", START, (("x", "text"), ("y", "text"), ("x", "text"))),
    ('<p a="{x}', ("value", (), "p"), (("x", "value"),)),
    ('<p a="b{x}c">{y}</p>', START, (("x", "value"), ("y", "text"))),
    ('<p to="{x}', ("path", (), "p"), (("x", "path"),)),
    ('<p to="ab{x}', ("path", (), "p"), (("x", "path"),)),
    ('<p to="ab:{x}', ("path", (), "p"), (("x", "path"),)),
    ('<p from="/{x}{y}', ("path", (), "p"), (("x", "path"), ("y", "path"))),
    ('<p from="{x}?', ("key", (), "p"), (("x", "path"),)),
    ('<p to="?{x}', ("key", (), "p"), (("x", "pair"),)),
    ('<p to="?{x}={y}', ("val", (), "p"), (("x", "pair"), ("y", "pair"))),
    ('<p to="?{x}={y};{x}', ("key", (), "p"), (("x", "pair"), ("y", "pair"), ("x", "pair"))),
    ("<code>a={x}", ("done", ("code",), ""), (("x", "atom"),)),
    ("<code>a={x};", ("row", ("code",), ""), (("x", "atom"),)),
    ("<code>a={x}+{y}+1;</code>", START, (("x", "atom"), ("y", "atom"))),
    ("<code>a='{x}", ("quoted", ("code",), ""), (("x", "quoted"),)),
    ("<code>a='b{x}c{y}'+{x};</code>", START, (("x", "quoted"), ("y", "quoted"), ("x", "atom"))),
    ('{x}<p a="{x}" to="{x}?{x}"><code>a={x}+\'{x}\';</code></p>', START,
     (("x", "text"), ("x", "value"), ("x", "path"), ("x", "pair"), ("x", "atom"), ("x", "quoted"))),
    # Choices.
    ("{if b}{end}", START, ()),
    ("{if b}{x}{else}{y}{end}", START, (("x", "text"), ("y", "text"))),
    ("{if b}{x}{x}{else}{end}{y}", START, (("x", "text"), ("x", "text"), ("y", "text"))),
    ("{if b}{else}{x}{end}{y}", START, (("x", "text"), ("y", "text"))),
    ("{if b}<p>{else}<p a=\"{x}\">{y}{end}", IN_P, (("x", "value"), ("y", "text"))),
    ("<p>{if b}</p>{x}{else}{y}</p>{end}", START, (("x", "text"), ("y", "text"))),
    ("<p a=\"{if b}{x}{else}c{end}\"{if b}>{else} a=\"{y}\">{end}", IN_P, (("x", "value"), ("y", "value"))),
    ('<p to="{if b}ab/{x}{else}{y}{end}', ("path", (), "p"), (("x", "path"), ("y", "path"))),
    ('<p to="ab{if b}c{else}d{end}', ("letters", (), "p"), ()),
    ('<p to="{if b}?{x}{else}/?{y}{end}', ("key", (), "p"), (("x", "pair"), ("y", "pair"))),
    ('<p to="?{if b}{x}={else}a;b={y}{end}', ("val", (), "p"), (("x", "pair"), ("y", "pair"))),
    ("<code>a={if b}{x}{else}'{y}'{end}", ("done", ("code",), ""), (("x", "atom"), ("y", "quoted"))),
    ("<code>a={if b}1{else}{x}+2{end}", ("number", ("code",), ""), (("x", "atom"),)),
    ("<code>{if b}a={x};{end}</code>", START, (("x", "atom"),)),
    ("<code>a='{if b}{x}{else}^q{y}{end}", ("quoted", ("code",), ""), (("x", "quoted"), ("y", "quoted"))),
    ("<{if b}p{else}p{end}>", IN_P, ()),
    ("<p{if b} a{else} a{end}=\"", ("value", (), "p"), ()),
    ("&{if b}a{else}q{end};", START, ()),
    ("{if b}<p>{if c}</p>{x}<b>{else}{y}</p><b>{end}{else}<b>{end}", ("text", ("b",), ""), (("x", "text"), ("y", "text"))),
    # Eachs.
    ("{each b}{end}", START, ()),
    ("{each b}{x}{end}{y}", START, (("x", "text"), ("y", "text"))),
    ("{each b}<p>{x}</p>{end}", START, (("x", "text"),)),
    ("<p>{each b}</p>{x}<p>{end}", IN_P, (("x", "text"),)),
    ("<p a=\"{each b}{x},{end}", ("value", (), "p"), (("x", "value"),)),
    ("<p a=\"\"{each b} c=\"{x}\"{end}", ("behind", (), "p"), (("x", "value"),)),
    ('<p to="/{each b}{x}/{end}', ("path", (), "p"), (("x", "path"),)),
    ('<p to="ab{each b}c{end}', ("letters", (), "p"), ()),
    ('<p to="?{each b}{x}={y};{end}', ("key", (), "p"), (("x", "pair"), ("y", "pair"))),
    ('<p to="?a={each b}b;{x}={y}{end}', ("val", (), "p"), (("x", "pair"), ("y", "pair"))),
    ("<code>{each b}a={x};{end}</code>", START, (("x", "atom"),)),
    ("<code>a={each b}{x}+{end}1;", ("row", ("code",), ""), (("x", "atom"),)),
    ("<code>a='{each b}{x}{end}'{each c}+{y}{end};", ("row", ("code",), ""), (("x", "quoted"), ("y", "atom"))),
    ("<code>a=1{each b}+{x}+2{end};", ("row", ("code",), ""), (("x", "atom"),)),
    ("{each b}{each c}{x}{if d}<p>{y}</p>{else}{x}{end}{end}{end}", START, (("x", "text"), ("y", "text"), ("x", "text"))),
)

# The text of a form and what it is refused with by look_through from the beginning: the class and its ways.
REFUSED = (
    (">", Stuck, (text(">"),)),
    ("a>b", Stuck, (text("a>"),)),
    ("<p>a</q>", Stuck, (text("<p>a</q>"),)),
    ("{x}\">", Stuck, (X, text("\""))),
    ("a{x}&b", Stuck, (text("a"), X, text("&b"))),
    ('<p a="{x}b<"', Stuck, (text('<p a="'), X, text("b<"))),
    ('<p a="b">{x}</p >', Stuck, (text('<p a="b">'), X, text("</p "))),
    ('<p to="{x}:', Stuck, (text('<p to="'), X, text(":"))),
    ('<p to="ab{x}:', Stuck, (text('<p to="ab'), X, text(":"))),
    ('<p to="a b', Stuck, (text('<p to="a '),)),
    ('<p to="a?b=c=d', Stuck, (text('<p to="a?b=c='),)),
    ('<p to="~1', Stuck, (text('<p to="~1'),)),
    ("<code>A", Stuck, (text("<code>A"),)),
    ("<code>a={x}1", Stuck, (text("<code>a="), X, text("1"))),
    ("<code>a='{x}\n", Stuck, (text("<code>a='"), X, text("\n"))),
    ("<code>a='{x}';b</code>", Stuck, (text("<code>a='"), X, text("';b<"))),
    ("{if b}a>{else}{end}", Stuck, (text("a>"),)),
    ("{if b}{else}{x}>{end}", Stuck, (X, text(">"))),
    ("a{if b}c{else}d>{end}", Stuck, (text("ad>"),)),
    ("{each b}>{end}", Stuck, (text(">"),)),
    ("a{each b}{x}{y}>{end}", Stuck, (text("a"), X, Y, text(">"))),
    ("<p>{each b}{if c}{x}{else}</q>{end}{end}", Stuck, (text("<p></q>"),)),
    ("<{x}", NoGap, (text("<"), X)),
    ("<p{x}", NoGap, (text("<p"), X)),
    ("<p {x}", NoGap, (text("<p "), X)),
    ("<p a{x}", NoGap, (text("<p a"), X)),
    ("<p a={x}", NoGap, (text("<p a="), X)),
    ('<p a=""{x}', NoGap, (text('<p a=""'), X)),
    ("&{x}", NoGap, (text("&"), X)),
    ("&a{x}", NoGap, (text("&a"), X)),
    ("</{x}", NoGap, (text("</"), X)),
    ('<p to="~{x}', NoGap, (text('<p to="~'), X)),
    ('<p to="~2{x}', NoGap, (text('<p to="~2'), X)),
    ("<code>{x}", NoGap, (text("<code>"), X)),
    ("<code>a{x}", NoGap, (text("<code>a"), X)),
    ("<code>a=1{x}", NoGap, (text("<code>a=1"), X)),
    ("<code>a={x}{y}", NoGap, (text("<code>a="), X, Y)),
    ("<code>a='^{x}", NoGap, (text("<code>a='^"), X)),
    ("<code>a=''{x}", NoGap, (text("<code>a=''"), X)),
    ("<code><{x}", NoGap, (text("<code><"), X)),
    ("{y}{if b}{x}{else}<{x}{end}", NoGap, (Y, text("<"), X)),
    ("{each b}<{x}{end}", NoGap, (text("<"), X)),
    ("{if b}<p>{else}{end}", Unlike, (text("<p>"),), ()),
    ("{if b}{else}<p>{end}", Unlike, (), (text("<p>"),)),
    ("a{if b}<p>{x}{else}<b>{y}{end}", Unlike, (text("a<p>"), X), (text("a<b>"), Y)),
    ("{x}{if b}<{end}", Unlike, (X, text("<")), (X,)),
    ('<p to="{if b}{x}{end}', Unlike, (text('<p to="'), X), (text('<p to="'),)),
    ('<p to="{if b}a{else}A{end}', Unlike, (text('<p to="a'),), (text('<p to="A'),)),
    ('<p{if b} a=""{end}>', Unlike, (text('<p a=""'),), (text("<p"),)),
    ('<p to="?{if b}a{else}b={end}', Unlike, (text('<p to="?a'),), (text('<p to="?b='),)),
    ("<code>a={if b}1{else}{x}{end};", Unlike, (text("<code>a=1"),), (text("<code>a="), X)),
    ("<{if b}p{else}b{end}>", Unlike, (text("<p"),), (text("<b"),)),
    ("{each b}<p>{end}", Unlike, (), (text("<p>"),)),
    ("{x}{each b}{y}<p>{end}", Unlike, (X,), (X, Y, text("<p>"))),
    ("<p>{each b}{x}</p>{end}", Unlike, (text("<p>"),), (text("<p>"), X, text("</p>"))),
    ("<p>{each b}</p><b>{end}", Unlike, (text("<p>"),), (text("<p></p><b>"),)),
    ('<p to="{each b}{x}{end}', Unlike, (text('<p to="'),), (text('<p to="'), X)),
    ('<p to="{each b}a{end}', Unlike, (text('<p to="'),), (text('<p to="a'),)),
    ("<code>a={each b}{x}{end};", Unlike, (text("<code>a="),), (text("<code>a="), X)),
    ("<code>a={x}{each b}+1{end};", Unlike, (text("<code>a="), X), (text("<code>a="), X, text("+1"))),
    ("{each b}{each c}<p>{end}{end}", Unlike, (), (text("<p>"),)),
    # What goes wrong first goes first.
    ("{if b}>{else}<{x}{end}<", Stuck, (text(">"),)),
    ("{if b}<{x}{else}>{end}", NoGap, (text("<"), X)),
    ("{if b}<p>{else}>{end}", Stuck, (text(">"),)),
    ("{if b}<p>{else}<{x}{end}", NoGap, (text("<"), X)),
    ("{if b}<p>{else}{end}>", Unlike, (text("<p>"),), ()),
    ("{if b}{if c}<p>{end}{else}>{end}", Unlike, (text("<p>"),), ()),
    ("{if b}<p>{else}{if c}<b>{end}{end}", Unlike, (text("<b>"),), ()),
    ("{if b}<p>{else}{each c}<b>{end}{end}", Unlike, (), (text("<b>"),)),
    ("{each b}<p>{x}>{end}", Stuck, (text("<p>"), X, text(">"))),
    ("{each b}<p>{if c}<b>{end}{end}", Unlike, (text("<p><b>"),), (text("<p>"),)),
    ("{each b}<p>{end}>", Unlike, (), (text("<p>"),)),
    (">{if b}<p>{end}", Stuck, (text(">"),)),
    ("<{x}>", NoGap, (text("<"), X)),
    ("<1{x}", Stuck, (text("<1"),)),
)

# The text of a form that is gone through, but does not end as it begins, and the only way to its end.
UNENDED = (
    ("<", (text("<"),)),
    ("a<p>", (text("a<p>"),)),
    ("<p>{x}", (text("<p>"), X)),
    ("<p>{x}</p", (text("<p>"), X, text("</p"))),
    ("&", (text("&"),)),
    ("&a", (text("&a"),)),
    ('<p a="', (text('<p a="'),)),
    ('<p to="{x}', (text('<p to="'), X)),
    ("<code>", (text("<code>"),)),
    ("<code>a={x};", (text("<code>a="), X, text(";"))),
    ("<p><p></p>", (text("<p><p></p>"),)),
)


def items_of(way):
    """The signs and gaps of a way, one after another."""
    items = []
    for kind, words in way:
        items.extend(list(words) if kind == "text" else [("gap", words)])
    return items


def run(way, state=START):
    """The surroundings behind each item of a way, from those ahead on, up to one that cannot stand, which is None."""
    states = [state]
    for item in items_of(way):
        here = states[-1]
        if isinstance(item, str):
            states.append(go_on(here, item))
        else:
            states.append(None if gap_kind(here) is None else behind_gap(here))
        if states[-1] is None:
            break
    return states


class Along:
    """All that a form can do with the items of a way: how many of them it may have used up, at which places."""

    def __init__(self, form, way):
        self.items = items_of(way)
        self.seen = {0}
        self.meetings = {}
        self.ends = self.go(form, {0}, ())

    def go(self, form, starts, place):
        here = starts
        for number, node in enumerate(form):
            at = place + (number,)
            if node[0] in ("text", "gap"):
                for item in items_of((node,)):
                    here = {count + 1 for count in here if self.items[count:count + 1] == [item]}
                    self.seen |= here
            elif node[0] == "if":
                one, other = self.go(node[2], here, at + (2,)), self.go(node[3], here, at + (3,))
                self.meet(at, one, other)
                here = one | other
            else:
                self.meet(at, here, self.go(node[2], here, at + (2,)))
                reached = set()
                while here - reached:
                    reached |= here
                    here = self.go(node[2], here, at + (2,))
                here = reached
        return here

    def meet(self, at, one, other):
        ones, others = self.meetings.setdefault(at, (set(), set()))
        ones |= one
        others |= other

    def begins(self):
        """Whether the items begin a way through the form."""
        return len(self.items) in self.seen

    def is_whole(self):
        return len(self.items) in self.ends


def meet(form, one, other):
    """Whether at some choice or each of the form these two ways meet, one by its first side and other by its other."""
    ones, others = Along(form, one), Along(form, other)
    return any(len(ones.items) in ones.meetings.get(at, (set(),))[0]
               and len(others.items) in others.meetings.get(at, (set(), set()))[1] for at in ones.meetings)


def some_way(chance, form, turns=3):
    """A way through the form, by chance."""
    way = []
    for node in form:
        if node[0] in ("text", "gap"):
            way.append(node)
        elif node[0] == "if":
            way.extend(some_way(chance, chance.choice(node[2:]), turns))
        else:
            for count in range(chance.randint(0, turns)):
                way.extend(some_way(chance, node[2], 1))
    return tuple(way)


def gaps_written(form):
    """The names of the gaps, in the order in which they are written."""
    names = []
    for node in form:
        names.extend([node[1]] if node[0] == "gap" else [])
        for inner in node[2:]:
            names.extend(gaps_written(inner))
    return names


def cuts(form):
    """The form in two parts, at each node and within each text."""
    for number, node in enumerate(form):
        yield form[:number], form[number:]
        if node[0] == "text":
            for at in range(len(node[1]) + 1):
                yield form[:number] + (text(node[1][:at]),), (text(node[1][at:]),) + form[number + 1:]
    yield form, ()


def spoiled(chance, form):
    """The form with one thing in it, however deep, otherwise."""
    if not form:
        return (text(chance.choice("<>&\"'")),)
    at = chance.randrange(len(form))
    node = form[at]
    if node[0] in ("if", "each") and chance.random() < 0.85:
        inner = chance.randrange(2, len(node))
        nodes = (node[:inner] + (spoiled(chance, node[inner]),) + node[inner + 1:],)
    elif node[0] == "text" and node[1] and chance.random() < 0.7:
        cut = chance.randrange(len(node[1]))
        nodes = (text(node[1][:cut] + chance.choice(["", ""] + ALL_SIGNS) + node[1][cut + 1:]),)
    else:
        nodes = chance.choice(((), (X,), (node, node), (("if", "c", (node,), ()),), (("each", "c", (node,)),)))
    return form[:at] + nodes + form[at + 1:]


def refusal(look, *given):
    try:
        look(*given)
    except GapsError as refused:
        return refused
    return None


class Looking(unittest.TestCase):
    def assert_way(self, way):
        """A joined form of texts and gaps alone."""
        self.assertTrue(is_form(way))
        self.assertTrue(all(node[0] in ("text", "gap") for node in way))
        self.assertEqual(way, plainly_joined(way))

    def check_refusal(self, refused, form, state=START):
        """The refusal, whichever, tells ways as point 17 says."""
        if isinstance(refused, Unlike):
            self.assert_way(refused.one)
            self.assert_way(refused.other)
            one, other = run(refused.one, state)[-1], run(refused.other, state)[-1]
            self.assertIsNotNone(one)
            self.assertIsNotNone(other)
            self.assertNotEqual(one, other)
            self.assertTrue(meet(form, refused.one, refused.other), (form, refused))
            return
        self.assert_way(refused.way)
        states = run(refused.way, state)
        self.assertEqual(len(states), len(items_of(refused.way)) + 1)
        along = Along(form, refused.way)
        self.assertTrue(along.begins(), (form, refused))
        if isinstance(refused, Unended):
            self.assertTrue(along.is_whole(), (form, refused))
            self.assertIsNotNone(states[-1])
            self.assertNotEqual(states[-1], START)
        else:
            self.assertEqual(refused.way[-1][0], "text" if isinstance(refused, Stuck) else "gap")
            self.assertIsNone(states[-1])


class LookedTest(Looking):
    def test_surroundings_and_gaps(self):
        for written, state, gaps in LOOKED:
            self.assertEqual(look_through(read_form(written)), (state, gaps), written)

    def test_from_surroundings_handed_in(self):
        for written, state, gaps in LOOKED:
            form = read_form(written)
            self.assertEqual(look_through(form, None), (state, gaps))
            self.assertEqual(look_through(form, START), (state, gaps))
            self.assertEqual(look_through(form, state=IN_P), ((state[0], ("p",) + state[1], state[2]), gaps))
        for written, state, behind, gaps in (
            ("", ("val", ("b",), "p"), ("val", ("b",), "p"), ()),
            ("{x};{y}", ("val", ("b",), "p"), ("key", ("b",), "p"), (("x", "pair"), ("y", "pair"))),
            ("{x}/", ("begin", (), "a"), ("path", (), "a"), (("x", "path"),)),
            ("{x}/", ("letters", (), "a"), ("path", (), "a"), (("x", "path"),)),
            ("{x}", ("atom", ("p", "code"), ""), ("done", ("p", "code"), ""), (("x", "atom"),)),
            ("p>", ("shut", ("p",), ""), START, ()),
            ("{x}\">{y}", ("value", ("b",), "p"), ("text", ("b", "p"), ""), (("x", "value"), ("y", "text"))),
            ("a{each b}{x}{end}", ("quoted", ("code",), ""), ("quoted", ("code",), ""), (("x", "quoted"),)),
        ):
            self.assertEqual(look_through(read_form(written), state), (behind, gaps), written)

    def test_forms_that_are_not_joined(self):
        self.assertEqual(look_through((text(""),)), (START, ()))
        self.assertEqual(look_through((text("<"), text(""), text("p"), text(">"), X)), (IN_P, (("x", "text"),)))

    def test_each_sign_as_go_on_leads(self):
        states = {run(read_form(written)[:1])[-1] for written, state, gaps in LOOKED if "{" not in written}
        states |= {go_over(START, written)[0] for written in ("<p a=\"", "<p to=\"", "<p to=\"a", "<p to=\"/", "<p to=\"?",
                                                              "<code>a=", "<code>a='", "<code>", "</", "<p to=\"~")}
        for state in states:
            for sign in ALL_SIGNS:
                behind = go_on(state, sign)
                if behind is not None:
                    self.assertEqual(look_through((text(sign),), state), (behind, ()))
                else:
                    self.assertEqual(refusal(look_through, (text(sign),), state).way, (text(sign),))

    def test_the_form_stays(self):
        for written, state, gaps in LOOKED:
            form = read_form(written)
            kept = copy.deepcopy(form)
            look_through(form)
            refusal(let_by, form)
            self.assertEqual(form, kept)

    def test_kinds_of_what_is_told(self):
        for written, state, gaps in LOOKED:
            told = look_through(read_form(written))
            self.assertIs(told.__class__, tuple)
            self.assertIs(told[1].__class__, tuple)
            self.assertTrue(all(gap.__class__ is tuple for gap in told[1]))

    def test_eight_deep_and_somewhat_more(self):
        for depth in (8, 12, 40):
            form = (X,)
            for count in range(depth - 1):
                form = (text("<p>"), ("each", "b", form), text("</p>")) if count % 2 else (("if", "b", form, (Y,)),)
            state, gaps = look_through(form)
            self.assertEqual(state, START)
            self.assertEqual(gaps, (("x", "text"),) + (("y", "text"),) * (depth // 2))
            self.assertTrue(let_by(form))

    def test_two_hundred_nodes(self):
        form = (text("<p>"), X, text("</p>"), ("each", "b", (Y,))) * 40
        self.assertEqual(look_through(form), (START, (("x", "text"), ("y", "text")) * 40))
        form = tuple(("if", "b", (X,), (Y,)) for count in range(66))
        self.assertEqual(look_through(form), (START, (("x", "text"), ("y", "text")) * 66))
        self.assertEqual(look_through((text("a" * 4000),) * 3), (START, ()))


class LetByTest(Looking):
    def test_forms_that_are_let_by(self):
        for written, state, gaps in LOOKED:
            form = read_form(written)
            if state == START:
                self.assertIs(let_by(form), True)
            else:
                refused = refusal(let_by, form)
                self.assertIs(refused.__class__, Unended, written)
                self.check_refusal(refused, form)

    def test_unended(self):
        for written, way in UNENDED:
            self.assertIs(refusal(let_by, read_form(written)).__class__, Unended)
            self.assertEqual(refusal(let_by, read_form(written)).way, way)
            self.assertIsNone(refusal(look_through, read_form(written)))

    def test_unended_behind_choices_and_eachs(self):
        for written in ("{if b}<p>{else}{x}<p>{end}", "<p>{each b}{x}{end}", "{if b}<{else}a<{end}p",
                        "{each b}{x}{end}{if b}{each c}{y}{end}<p>{else}a{if d}b{else}{x}{end}<p>{end}"):
            refused = refusal(let_by, read_form(written))
            self.assertIs(refused.__class__, Unended)
            self.check_refusal(refused, read_form(written))

    def test_refused_ahead_of_the_end(self):
        for written, kind, *ways in REFUSED:
            refused = refusal(let_by, read_form(written))
            self.assertIs(refused.__class__, kind)

    def test_forms_made_by_chance(self):
        maker = FormMaker(16)
        for count in range(400):
            form = maker.form()
            self.assertIs(let_by(form), True)
            state, gaps = look_through(form)
            self.assertEqual(state, START)
            self.assertEqual([name for name, kind in gaps], gaps_written(form))
            for way in (some_way(maker.chance, form), some_way(maker.chance, form)):
                self.assertEqual(run(way)[-1], START)


class RefusedTest(Looking):
    def test_as_the_point_tells(self):
        for written, kind, *ways in REFUSED:
            form = read_form(written)
            refused = refusal(look_through, form)
            self.assertIs(refused.__class__, kind, written)
            told = [refused.one, refused.other] if kind is Unlike else [refused.way]
            self.assertEqual(told, ways, written)
            self.check_refusal(refused, form)

    def test_behind_choices_and_eachs(self):
        for start in ("{if b}{x}{else}{y}{end}", "{each b}{x}{end}", "{if b}<p>{else}<b></b><p>{end}{each c}{x}{end}</p>",
                      "{if b}{if c}a{else}{x}{end}{else}{each d}{y}{end}{end}"):
            for written, kind, *ways in REFUSED:
                form = read_form(start + written)
                refused = refusal(look_through, form)
                self.assertIs(refused.__class__, kind, start + written)
                self.check_refusal(refused, form)

    def test_within_choices_and_eachs(self):
        for written, kind, *ways in REFUSED:
            form = read_form(written)
            for around in ((("if", "c", form, ()),), (("if", "c", (X,), form),), (("each", "c", form),),
                           (text("<p>"), ("each", "c", (Y, ("if", "d", (), form))), text("</p>"))):
                refused = refusal(look_through, around)
                self.assertIs(refused.__class__, kind, written)
                self.check_refusal(refused, around)

    def test_from_surroundings_handed_in(self):
        for written, state, kind, *ways in (
            ("a{x}>", IN_P, Stuck, (text("a"), X, text(">"))),
            ("b", ("half", (), "p path 0"), Stuck, (text("b"),)),
            (":", ("path", (), "p"), Stuck, (text(":"),)),
            ("{x}", ("done", ("code",), ""), NoGap, (X,)),
            ("{if b}a{else}{end}", ("begin", (), "p"), Unlike, (text("a"),), ()),
            ("{each b}{x}{end}", ("letters", (), "p"), Unlike, (), (X,)),
        ):
            refused = refusal(look_through, read_form(written), state)
            self.assertIs(refused.__class__, kind, written)
            self.assertEqual([refused.one, refused.other] if kind is Unlike else [refused.way], ways)
            self.check_refusal(refused, read_form(written), state)

    def test_texts_that_are_not_joined(self):
        self.assertEqual(refusal(look_through, (text("a"), text(""), text("b>c"))).way, (text("ab>"),))
        self.assertEqual(refusal(look_through, (text("<"), text(""), X)).way, (text("<"), X))
        refused = refusal(look_through, (text("a"), ("if", "b", (text("<"), text("p")), (text(""),))))
        self.assertEqual((refused.one, refused.other), ((text("a<p"),), (text("a"),)))
        self.assertEqual(refusal(let_by, (text("a"), text("<p"), text(">"))).way, (text("a<p>"),))

    def test_spoiled_forms(self):
        maker = FormMaker(17)
        counts = {None: 0, Stuck: 0, NoGap: 0, Unlike: 0, Unended: 0}
        for count in range(3000):
            form = spoiled(maker.chance, maker.form())
            refused = refusal(let_by, form)
            if refused is None:
                counts[None] += 1
                for way in (some_way(maker.chance, form), some_way(maker.chance, form)):
                    self.assertEqual(run(way)[-1], START)
            else:
                counts[refused.__class__] += 1
                self.check_refusal(refused, form)
        for kind in counts:
            self.assertGreater(counts[kind], 30, kind)


class CutTest(Looking):
    def check(self, form):
        """Gone through part by part it tells the same, wherever it is cut."""
        whole = refusal(look_through, form)
        for first, second in cuts(form):
            ahead = refusal(look_through, first)
            if ahead is not None:
                self.assertIs(ahead.__class__, whole.__class__)
                self.check_refusal(ahead, form)
                continue
            state, gaps = look_through(first)
            behind = refusal(look_through, second, state)
            if behind is not None:
                self.assertIs(behind.__class__, whole.__class__)
                self.check_refusal(behind, second, state)
                continue
            self.assertIsNone(whole)
            further, more = look_through(second, state)
            self.assertEqual((further, gaps + more), look_through(form))

    def test_forms_that_are_gone_through(self):
        for written, state, gaps in LOOKED:
            self.check(read_form(written))

    def test_forms_that_are_refused(self):
        for written, kind, *ways in REFUSED:
            self.check(read_form(written))
            self.check(read_form("<p>{x}" + written))

    def test_forms_made_by_chance(self):
        maker = FormMaker(18)
        for count in range(60):
            form = maker.form(2)
            self.check(form)
            self.check(spoiled(maker.chance, form))


if __name__ == "__main__":
    unittest.main()
