"""Leaves and bones of contents, and contents put together from them (points 21, 22)."""

import copy
import unittest

from safegaps.errors import GapsError, NoTree
from safegaps.pages import read_page
from safegaps.trees import bones_of, leaves_of, tree_of
from tests.helping import EVERY_SIGN, OTHERS, Odd
from tests.test_pages import TOLD, Maker

# The text of a page, the leaves and the bones of its content.
TREES = (
    ("", ("",), ()),
    ("a &l; b", ("a < b",), ()),
    ("<p></p>", ("", "", ""), (("p", (), ()),)),
    ("a<p>b</p>c", ("a", "b", "c"), (("p", (), ()),)),
    ("a<p>b</p>c<q>d</q>e", ("a", "b", "c", "d", "e"), (("p", (), ()), ("q", (), ()))),
    ("a<p>b<q>c</q>d</p>e", ("a", "b", "c", "d", "e"), (("p", (), (("q", (), ()),)),)),
    ('a<p x="b" y="" x="&q;">c</p>d', ("a", "b", "", '"', "c", "d"), (("p", (("x", None), ("y", None), ("x", None)), ()),)),
    ('<p to="">c</p>', ("", "", "c", ""), (("p", (("to", (None, 1, ())),), ()),)),
    ('<p to="a">c</p>', ("", "a", "c", ""), (("p", (("to", (None, 1, ())),), ()),)),
    ('<p to="ab:c/~20/d">e</p>', ("", "c", " ", "d", "e", ""), (("p", (("to", ("ab", 3, ())),), ()),)),
    ('<p from="a/?b=c;d;=;e=">f</p>', ("", "a", "", "b", "c", "d", "", "", "e", "", "f", ""),
     (("p", (("from", (None, 2, (True, False, True, True))),), ()),)),
    ('<p to="?">f</p>', ("", "", "", "f", ""), (("p", (("to", (None, 1, (False,))),), ()),)),
    ('<p x="1" to="2?3=4" y="5" from="6">7</p>', ("", "1", "2", "3", "4", "5", "6", "7", ""),
     (("p", (("x", None), ("to", (None, 1, (True,))), ("y", None), ("from", (None, 1, ()))), ()),)),
    ("a<code></code>b", ("a", "b"), (("code", (), ()),)),
    ("a<code>x=1;</code>b", ("a", "1", "b"), (("code", (), (("x", ("num",)),)),)),
    ("a<code>x=1+'^q'+'';y=007;</code>b", ("a", "1", "'", "", "007", "b"),
     (("code", (), (("x", ("num", "text", "text")), ("y", ("num",)))),)),
    ('<code y="a" to="b/c">x=1;</code>', ("", "a", "b", "c", "1", ""),
     (("code", (("y", None), ("to", (None, 2, ()))), (("x", ("num",)),)),)),
    ('<p><code>x=1;</code>a<code></code>b</p>', ("", "", "1", "a", "b", ""),
     (("p", (), (("code", (), (("x", ("num",)),)), ("code", (), ()))),)),
)


def plain_leaves(content):
    """The leaves as point 21 tells, told a second time."""
    texts, tags = content
    yield texts[0]
    for (name, attrs, inside), text in zip(tags, texts[1:], strict=True):
        for attr, value in attrs:
            if attr in ("to", "from"):
                yield from value[1]
                yield from (part for pair in value[2] for part in pair if part is not None)
            else:
                yield value
        if name == "code":
            yield from (words for row in inside for kind, words in row[1])
        else:
            yield from plain_leaves(inside)
        yield text


def plain_bones(content):
    """The bones as point 22 tells, told a second time."""
    bones = ()
    for name, attrs, inside in content[1]:
        told = ()
        for attr, value in attrs:
            if attr in ("to", "from"):
                value = (value[0], len(value[1]), tuple(pair[1] is not None for pair in value[2]))
            else:
                value = None
            told += ((attr, value),)
        if name == "code":
            inside = tuple((row, tuple(kind for kind, words in atoms)) for row, atoms in inside)
        else:
            inside = plain_bones(inside)
        bones += ((name, told, inside),)
    return bones


class Trees(unittest.TestCase):
    def contents(self):
        yield from (read_page(text) for text, leaves, bones in TREES)
        yield from (content for content, text in TOLD)
        maker = Maker(22)
        yield from (maker.content(3) for count in range(300))

    def assert_tuples(self, thing):
        """Nothing in it is a list, a dict or a set."""
        if thing.__class__ is tuple:
            for part in thing:
                self.assert_tuples(part)
        else:
            self.assertIn(thing.__class__, (str, int, bool, None.__class__))


class LeavesAndBonesTest(Trees):
    def test_as_the_points_tell(self):
        for text, leaves, bones in TREES:
            self.assertEqual(leaves_of(read_page(text)), leaves, text)
            self.assertEqual(bones_of(read_page(text)), bones, text)

    def test_many_contents(self):
        for content in self.contents():
            self.assertEqual(leaves_of(content), tuple(plain_leaves(content)))
            self.assertEqual(bones_of(content), plain_bones(content))

    def test_kinds(self):
        for content in self.contents():
            self.assertIs(leaves_of(content).__class__, tuple)
            self.assert_tuples(leaves_of(content))
            self.assertIs(bones_of(content).__class__, tuple)
            self.assert_tuples(bones_of(content))
        truths = bones_of(read_page('<p to="?a;b=c"></p>'))[0][1][0][1][2]
        self.assertIs(truths[0], False)
        self.assertIs(truths[1], True)

    def test_what_is_handed_in_stays(self):
        for content in self.contents():
            kept = copy.deepcopy(content)
            leaves_of(content)
            bones_of(content)
            self.assertEqual(content, kept)


class TreeTest(Trees):
    def refused(self, bones, leaves):
        try:
            tree_of(bones, leaves)
        except NoTree as refused:
            self.assertIs(refused.__class__, NoTree)
            self.assertIsInstance(refused, GapsError)
            return True
        return False

    def test_the_content_comes_again(self):
        for content in self.contents():
            self.assertEqual(tree_of(bones_of(content), leaves_of(content)), content)
            self.assertEqual(tree_of(bones_of(content), list(leaves_of(content))), content)
            self.assert_tuples(tree_of(bones_of(content), list(leaves_of(content))))

    def test_other_leaves(self):
        for content in self.contents():
            bones = bones_of(content)
            others = tuple(str(number) for number in range(len(leaves_of(content))))
            tree = tree_of(bones, others)
            self.assertEqual(leaves_of(tree), others)
            self.assertEqual(bones_of(tree), bones)

    def test_every_sign(self):
        bones = (("p", (("to", (None, 1, (True,))), ("a", None)), (("code", (), (("x", ("text",)),)),)),)
        content = tree_of(bones, [EVERY_SIGN] * 9)
        self.assertEqual(leaves_of(content), (EVERY_SIGN,) * 9)

    def test_more_or_fewer_leaves(self):
        for content in self.contents():
            bones, leaves = bones_of(content), leaves_of(content)
            for count in range(len(leaves)):
                if count < 5 or count > len(leaves) - 5:
                    self.assertTrue(self.refused(bones, leaves[:count]))
                    self.assertTrue(self.refused(bones, list(leaves[:count])))
            for more in (("",), ("a", "b"), leaves):
                self.assertTrue(self.refused(bones, leaves + more))
                self.assertTrue(self.refused(bones, more + leaves))
                self.assertTrue(self.refused(bones, list(leaves + more)))
            self.assertTrue(self.refused(bones, ()))
            self.assertTrue(self.refused(bones, []))

    def test_more_or_fewer_whatever_they_are(self):
        for text, leaves, bones in TREES:
            for thing in OTHERS + (Odd(), ("a",), [["a"]]):
                for count in (0, len(leaves) - 1, len(leaves) + 1, len(leaves) + 7):
                    self.assertTrue(self.refused(bones, [thing] * count))
                    self.assertTrue(self.refused(bones, (thing,) * count))
                self.assertTrue(self.refused(bones, leaves + (thing,)))
                self.assertTrue(self.refused(bones, (thing,) + leaves))

    def test_what_is_handed_in_stays(self):
        for content in self.contents():
            bones, leaves = bones_of(content), list(leaves_of(content))
            kept = copy.deepcopy((bones, leaves))
            tree_of(bones, leaves)
            self.assertEqual((bones, leaves), kept)
            leaves.append("a")
            self.assertTrue(self.refused(bones, leaves))
            self.assertEqual((bones, leaves), (kept[0], kept[1] + ["a"]))

    def test_thirty_deep_and_somewhat_more(self):
        for depth in (30, 40, 80):
            text = "".join(f'<p a="{number}">{number}' for number in range(depth)) + "</p>" * depth
            content = read_page(text)
            leaves, bones = leaves_of(content), bones_of(content)
            self.assertEqual(leaves, tuple(plain_leaves(content)))
            self.assertEqual(tree_of(bones, leaves), content)

    def test_many_leaves(self):
        for text in ("<p></p>" * 570, '<p to="' + "/" * 3900 + '"></p>', '<p to="?' + ";" * 3900 + '"></p>',
                     "<code>" + "a=1;" * 990 + "</code>", "<code>a=1" + "+2" * 1900 + ";</code>"):
            content = read_page(text)
            leaves, bones = leaves_of(content), bones_of(content)
            self.assertEqual(leaves, tuple(plain_leaves(content)))
            self.assertEqual(tree_of(bones, list(leaves)), content)
            self.assertTrue(self.refused(bones, leaves[:-1]))


if __name__ == "__main__":
    unittest.main()
