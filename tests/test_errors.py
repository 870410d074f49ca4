"""The refusals: which class stands under which, and the values of each."""

import unittest

from safegaps import errors
from safegaps.errors import (
    GapsError, NoForm, NoGap, NoName, NoPage, NoPiece, NoTree, NoValue, Ring, Stuck, TooGreat, Unended, Unlike,
)

REFUSALS = (NoPage, NoForm, Stuck, NoGap, Unlike, Unended, NoPiece, NoName, NoValue, NoTree, Ring, TooGreat)
WAY = (("text", "<p>"), ("gap", "a"))


class Wordless:
    def __repr__(self):
        raise RuntimeError


class ClassesTest(unittest.TestCase):
    def test_gaps_error_stands_under_value_error(self):
        self.assertTrue(issubclass(GapsError, ValueError))
        self.assertEqual(GapsError.__bases__, (ValueError,))

    def test_each_refusal_stands_under_gaps_error(self):
        for refusal in REFUSALS:
            self.assertTrue(issubclass(refusal, GapsError), refusal)

    def test_no_refusal_stands_under_another(self):
        for one in REFUSALS:
            for other in REFUSALS:
                if one is not other:
                    self.assertFalse(issubclass(one, other), (one, other))

    def test_all_twelve_are_there(self):
        there = [thing for thing in vars(errors).values() if isinstance(thing, type) and thing is not GapsError]
        self.assertEqual(len(there), 12)
        self.assertEqual(set(there), set(REFUSALS))


class ValuesTest(unittest.TestCase):
    def test_no_page_has_at(self):
        for at in (0, 1, 4000):
            self.assertEqual(NoPage(at).at, at)
            self.assertEqual(NoPage(at=at).at, at)

    def test_ways(self):
        for refusal in (Stuck, NoGap, Unended):
            self.assertEqual(refusal(WAY).way, WAY)
            self.assertEqual(refusal(()).way, ())
            self.assertEqual(refusal(way=WAY).way, WAY)

    def test_unlike_has_one_and_other(self):
        refused = Unlike(WAY, ())
        self.assertEqual(refused.one, WAY)
        self.assertEqual(refused.other, ())
        self.assertEqual(Unlike(one=(), other=WAY).other, WAY)

    def test_names(self):
        for refusal in (NoName, NoValue, Ring):
            for name in ("a", "abcdefgh", ""):
                self.assertEqual(refusal(name).name, name)
                self.assertEqual(refusal(name=name).name, name)

    def test_no_name_may_have_anything_as_its_name(self):
        for name in (None, 7, True, ["a"], ("a", "b"), {"a": 1}):
            self.assertEqual(NoName(name).name, name)
        for name in (Wordless(), 10 ** 5000):
            self.assertIs(NoName(name).name, name)
            self.assertNotEqual(str(NoName(name)), "")

    def test_those_without_values(self):
        for refusal in (NoForm, NoPiece, NoTree, TooGreat):
            self.assertIsInstance(refusal(), GapsError)
            self.assertEqual(vars(refusal()), {})

    def test_values_differ_from_object_to_object(self):
        one, other = NoPage(1), NoPage(2)
        self.assertEqual((one.at, other.at), (1, 2))

    def test_each_is_taken_as_gaps_error_with_its_value(self):
        for refusal, value in ((NoPage(3), "at"), (Stuck(WAY), "way"), (NoName("a"), "name"), (Unlike(WAY, ()), "one")):
            try:
                raise refusal
            except GapsError as taken:
                self.assertTrue(hasattr(taken, value))

    def test_each_has_words(self):
        for refusal in (NoPage(3), Stuck(WAY), NoGap(WAY), Unlike(WAY, ()), Unended(WAY), NoName("a"), NoValue("a"),
                        Ring("a")):
            self.assertNotEqual(str(refusal), "")


if __name__ == "__main__":
    unittest.main()
