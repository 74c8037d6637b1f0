"""The turned works [7], and what a name is [4]."""

import unittest

from samples import EIGHT, MIDDLE, SMALLEST, full_works, many_works
from stationrow.works import is_name, turned_about


class Turned(unittest.TestCase):
    def test_orders_exchanged_in_their_places_and_row_about(self):
        works = (
            (("a", 1, ("x",)), ("b", 2, ()), ("c", 3, ("y", "x"))),
            (("a", "b"), ("c", "b"), ("a", "c")),
            (("with", "a", "b"), ("apart", "c", "a")),
            ("x", "y", "y", "z"),
        )
        turned = (
            (("a", 1, ("x",)), ("b", 2, ()), ("c", 3, ("y", "x"))),
            (("b", "a"), ("b", "c"), ("c", "a")),
            (("with", "a", "b"), ("apart", "c", "a")),
            ("z", "y", "y", "x"),
        )
        self.assertEqual(turned_about(works), turned)

    def test_nothing_to_turn(self):
        self.assertEqual(turned_about(SMALLEST), SMALLEST)

    def test_all_else_is_the_same(self):
        for works in many_works():
            with self.subTest(works=works):
                turned = turned_about(works)
                self.assertEqual(len(turned), 4)
                self.assertEqual(turned[0], works[0])
                self.assertEqual(turned[1], tuple((other, one) for one, other in works[1]))
                self.assertEqual(turned[2], works[2])
                self.assertEqual(turned[3], works[3][::-1])

    def test_made_of_tuples(self):
        turned = turned_about(full_works())
        self.assertIs(type(turned), tuple)
        for part in turned:
            self.assertIs(type(part), tuple)
        for order in turned[1]:
            self.assertIs(type(order), tuple)

    def test_turned_twice_is_the_works_again(self):
        for works in many_works():
            with self.subTest(works=works):
                self.assertEqual(turned_about(turned_about(works)), works)

    def test_asked_again_told_alike(self):
        first = turned_about(MIDDLE)
        turned_about(full_works())
        self.assertEqual(turned_about(MIDDLE), first)

    def test_somewhat_beyond_the_bounds_is_not_refused(self):
        tasks = tuple((name, 10 ** 61, ()) for name in EIGHT + ("ninth",))
        works = (tasks, (("a", "ninth"),), (), ("x",) * 8 + ("y",))
        self.assertEqual(turned_about(works), (tasks, (("ninth", "a"),), (), ("y",) + ("x",) * 8))


class Names(unittest.TestCase):
    def test_names(self):
        for word in ("a", "z", "abcdefgh", "ijklmnop", "qrstuvwx", "yz", "task", "row", "order", "with", "apart"):
            with self.subTest(word=word):
                self.assertIs(is_name(word), True)

    def test_no_names(self):
        for word in ("", "abcdefghi", "A", "aB", "a1", "1", "a_b", "a-b", "a b", " a", "a\n", "`", "{", "\u00e4"):
            with self.subTest(word=word):
                self.assertIs(is_name(word), False)


if __name__ == "__main__":
    unittest.main()
