"""The promise of the whole program (point 3)."""

import itertools
import unittest

from safegaps.errors import GapsError, NoGap, Stuck, Unended, Unlike
from safegaps.fills import fill_form
from safegaps.looks import let_by, look_through
from safegaps.marks import read_form
from safegaps.pages import read_page, show_page
from safegaps.pieces import Piece
from safegaps.places import gap_places
from safegaps.shelves import Shelf
from safegaps.states import START, behind_gap, gap_kind, go_on
from safegaps.trees import bones_of, leaves_of, tree_of
from tests.helping import ALL_SIGNS, EVERY_SIGN, FormMaker
from tests.test_fills import AT_KINDS, DataMaker, PlainlyFilled
from tests.test_looks import spoiled, text

NASTY = (
    "", "<", ">", "\"", "&", "'", "^", "~", "/", "?", "=", ";", ":", "+", "\n", " ", "{x}", "</p>", "<p>", "\"><p a=\"", "&a;", "&",
    "javascript:", "http:", "~2", "~20", "'+1+'", "';b=1;c='", "^q", "</code>", "a=1;", "?k=v", ";k=v", "../..", "{end}", "12",
    EVERY_SIGN,
)


def retold(data, tell):
    """The data with what is told for gaps told anew; choices and counts of turns stay."""
    return {name: tell() if isinstance(thing, (str, Piece))
            else [retold(turn, tell) for turn in thing] if isinstance(thing, list) else thing for name, thing in data.items()}


def words_put(form, data):
    """The texts that are put into the gaps, in the order of the page."""
    return [told if isinstance(told, str) else told.words for at, kind, told in PlainlyFilled(form, data).gaps]


class PromiseTest(unittest.TestCase):
    def check(self, form, *tellings):
        """tellings: data that differ in texts and plain pieces alone."""
        bare = retold(tellings[0], str)
        bones = bones_of(read_page(fill_form(form, bare)))
        own = leaves_of(read_page(fill_form(form, bare)))
        spots = gap_places(form, bare)
        for data in tellings:
            page = fill_form(form, data)
            content = read_page(page)
            self.assertEqual(read_page(show_page(content)), content)
            self.assertEqual(bones_of(content), bones)
            words = words_put(form, data)
            places = gap_places(form, data)
            leaves = list(leaves_of(content))
            self.assertEqual(len(places), len(words))
            self.assertEqual([leaf for leaf, start in places], [leaf for leaf, start in spots])
            for (leaf, start), told in zip(places, words):
                self.assertEqual(leaves[leaf][start:start + len(told)], told)
            # Taken out again from the right, the texts leave what the form itself writes.
            for (leaf, start), told in reversed(list(zip(places, words))):
                leaves[leaf] = leaves[leaf][:start] + leaves[leaf][start + len(told):]
            self.assertEqual(tuple(leaves), own)
            # Put in anew where the form has its gaps, they make the page.
            for (leaf, start), told in reversed(list(zip(spots, words))):
                leaves[leaf] = leaves[leaf][:start] + told + leaves[leaf][start:]
            self.assertEqual(tree_of(bones, leaves), content)

    def test_every_sign_at_each_kind_of_gap(self):
        for kind, ahead, behind in AT_KINDS:
            form = read_form(ahead + "{x}" + behind)
            self.check(form, *[{"x": told} for told in NASTY + tuple(ALL_SIGNS)])
            self.check(form, *[{"x": Piece(told)} for told in NASTY])

    def test_two_gaps_side_by_side(self):
        for kind, ahead, behind in AT_KINDS:
            if kind != "atom":
                form = read_form(ahead + "{x}{y}" + behind)
                self.check(form, *[{"x": one, "y": other} for one, other in itertools.product(NASTY, repeat=2)][::7])

    def test_forms_made_by_chance(self):
        maker, data = FormMaker(3), DataMaker(3)
        turns = {"text": 0, "value": 0, "path": 0, "pair": 0, "atom": 0, "quoted": 0}
        for count in range(250):
            form = maker.form()
            self.assertIs(let_by(form), True)
            one = data.data(data.text)
            other = retold(one, lambda: data.chance.choice(NASTY))
            third = retold(one, lambda: Piece(data.text()))
            if len(fill_form(form, other)) < 5000:
                self.check(form, one, other, third)
                for at, kind, told in PlainlyFilled(form, one).gaps:
                    turns[kind] += 1
        for kind in turns:
            self.assertGreater(turns[kind], 100, kind)

    def test_a_page_of_a_shelf(self):
        shelf = Shelf()
        shelf.put("row", '<p to="/{path}?k={key}" class="{sort}">{text}</p>')
        shelf.put("page", "{if head}<b>{title}</b>{end}{each rows}{use row}{end}<code>n={n};</code>")
        for words in NASTY:
            told = {"path": words, "key": words, "sort": words, "text": words, "n": words, "title": words, "head": True}
            told["rows"] = [{}, {"text": "a"}, {"path": "b"}]
            page = shelf.fill("page", told)
            self.assertEqual(bones_of(read_page(page)),
                             (("b", (), ()),) + (("p", (("to", (None, 2, (True,))), ("class", None)), ()),) * 3
                             + (("code", (), (("n", ("text",)),)),))
            self.check(shelf.whole("page"), told)


def reached(form, states, place, seen, turns=3):
    """The surroundings behind the form by all ways, each along an each at most so many times.

    seen: by each place all surroundings with which ways come to it, None where a sign or a gap cannot stand there.
    """
    here = states
    for number, node in enumerate(form):
        at = place + (number,)
        if node[0] == "text":
            for count, sign in enumerate(node[1]):
                here = {go_on(state, sign) for state in here if state is not None}
                seen.setdefault(at + (count,), set()).update(here)
        elif node[0] == "gap":
            here = {behind_gap(state) if gap_kind(state) else None for state in here if state is not None}
            seen.setdefault(at, set()).update(here)
        elif node[0] == "if":
            here = reached(node[2], here, at + (2,), seen) | reached(node[3], here, at + (3,), seen)
            seen.setdefault(at, set()).update(here)
        else:
            together = set(here)
            for count in range(turns):
                here = reached(node[2], here, at + (2,), seen)
                together |= here
            here = together
            seen.setdefault(at, set()).update(here)
    return here


def is_let_by(form):
    """Whether the form is let by, as point 3 says it."""
    seen = {}
    return reached(form, {START}, (), seen) == {START} and all(len(states) == 1 and None not in states for states in seen.values())


class LetByTest(unittest.TestCase):
    def check(self, form):
        try:
            told = let_by(form)
        except (Stuck, NoGap, Unlike, Unended):
            told = False
        self.assertIs(told, is_let_by(form), form)
        return told

    def test_small_forms(self):
        x = ("gap", "x")
        nodes = [text("<p>"), text("</p>"), text("<p"), text(">"), text("a"), text(' a="'), text('"'), x]
        forms = [()] + [(node,) for node in nodes] + list(itertools.product(nodes, repeat=2))
        inner = [(), (text("a"),), (x,), (text("<p>"),), (text("</p>"),), (text("</p>"), text("<p>")), (text("<p>"), text("</p>")),
                 (text("<"),), (text('"'),), (text('" b="'),)]
        nodes += [("each", "l", form) for form in inner]
        nodes += [("if", "b", one, other) for one, other in itertools.product(inner, repeat=2)]
        counts = {True: 0, False: 0}
        for form in forms + list(itertools.product(nodes, repeat=2)):
            counts[self.check(form)] += 1
        for form in itertools.product((text("<p>"), text('<p a="')), nodes[-110:], (text("</p>"), text('"></p>'), x)):
            counts[self.check(form)] += 1
            counts[self.check((("each", "m", form),))] += 1
        self.assertGreater(counts[True], 300)
        self.assertGreater(counts[False], 300)

    def test_forms_by_chance(self):
        maker = FormMaker(30)
        counts = {True: 0, False: 0}
        for count in range(300):
            form = maker.form(2)
            self.assertTrue(self.check(form))
            for number in range(3):
                counts[self.check(spoiled(maker.chance, form))] += 1
        self.assertGreater(counts[True], 100)
        self.assertGreater(counts[False], 100)

    def test_what_is_let_by_is_filled_whatever_the_texts(self):
        maker, data = FormMaker(31), DataMaker(31)
        for count in range(400):
            form = spoiled(maker.chance, maker.form(2))
            told = data.data(lambda: data.chance.choice(NASTY))
            told = told | {"x": "<", "c": True} if data.chance.random() < 0.5 else told | {"x": "'", "c": []}
            try:
                page = fill_form(form, told)
            except GapsError:
                continue
            read_page(page)
            self.assertEqual(look_through(form)[0], START)


if __name__ == "__main__":
    unittest.main()
