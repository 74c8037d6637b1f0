"""How a works is written as a text [5]."""

import unittest

from samples import MIDDLE, MIDDLE_TEXT, SMALLEST, SMALLEST_TEXT, full_works, many_works
from stationrow.texts import show_works

FULL_TEXT = "\n".join((
    "task a 1",
    "task bb 9 k",
    "task ccc 10 k kk",
    "task dddd 1" + "0" * 59 + " k kk kkk",
    "task eeeee " + "9" * 60 + " k kk kkk kkkkkkkk",
    "task ffffff 1" + "0" * 58 + "1",
    "task ggggggg 99 k",
    "task hhhhhhhh 100 k kk",
    "order a bb",
    "order a ccc",
    "order a dddd",
    "order a eeeee",
    "order a ffffff",
    "order a ggggggg",
    "order a hhhhhhhh",
    "order bb ccc",
    "order bb dddd",
    "order bb eeeee",
    "order bb ffffff",
    "order bb ggggggg",
    "order bb hhhhhhhh",
    "order ccc dddd",
    "order ccc eeeee",
    "order ccc ffffff",
    "order ccc ggggggg",
    "order ccc hhhhhhhh",
    "order dddd eeeee",
    "order dddd ffffff",
    "order dddd ggggggg",
    "order dddd hhhhhhhh",
    "order eeeee ffffff",
    "order eeeee ggggggg",
    "order eeeee hhhhhhhh",
    "order ffffff ggggggg",
    "order ffffff hhhhhhhh",
    "order ggggggg hhhhhhhh",
    "with a bb",
    "with bb ccc",
    "with ccc dddd",
    "with dddd eeeee",
    "with bb a",
    "with ccc bb",
    "with dddd ccc",
    "with eeeee dddd",
    "apart a bb",
    "apart bb ccc",
    "apart ccc dddd",
    "apart dddd eeeee",
    "row k k kk kkk k kkkkkkkk kk k",
))


class Shown(unittest.TestCase):
    def test_one_task_one_stand(self):
        self.assertEqual(show_works(SMALLEST), SMALLEST_TEXT)

    def test_one_task_with_kinds_and_eight_stands(self):
        works = ((("abcdefgh", 10 ** 60 - 1, ("d", "c", "b", "a")),), (), (), tuple("stuvwxyz"))
        self.assertEqual(show_works(works), "task abcdefgh " + "9" * 60 + " d c b a\nrow s t u v w x y z")

    def test_some_of_all(self):
        self.assertEqual(show_works(MIDDLE), MIDDLE_TEXT)

    def test_as_much_as_there_may_be(self):
        self.assertEqual(show_works(full_works()), FULL_TEXT)

    def test_pairs_of_both_words_stay_in_their_order(self):
        tasks = (("a", 1, ()), ("b", 1, ()))
        pairs = (("apart", "b", "a"), ("with", "a", "b"), ("apart", "a", "b"))
        text = "task a 1\ntask b 1\napart b a\nwith a b\napart a b\nrow x"
        self.assertEqual(show_works((tasks, (), pairs, ("x",))), text)

    def test_orders_stay_in_their_order(self):
        tasks = (("b", 2, ()), ("a", 1, ()))
        orders = (("b", "a"), ("a", "b"))
        self.assertEqual(show_works((tasks, orders, (), ("x",))), "task b 2\ntask a 1\norder b a\norder a b\nrow x")

    def test_single_blanks_and_no_line_end_behind(self):
        for works in many_works():
            with self.subTest(works=works):
                text = show_works(works)
                rows = text.split("\n")
                self.assertIs(type(text), str)
                self.assertEqual(len(rows), len(works[0]) + len(works[1]) + len(works[2]) + 1)
                for row in rows:
                    self.assertEqual(row, " ".join(row.split()))
                    self.assertNotEqual(row, "")

    def test_asked_again_told_alike(self):
        first = show_works(MIDDLE)
        show_works(full_works())
        self.assertEqual(show_works(MIDDLE), first)

    def test_somewhat_beyond_the_bounds_is_not_refused(self):
        works = ((("a", 10 ** 61, ()),), (), (), ("x",) * 9)
        self.assertEqual(show_works(works), "task a 1" + "0" * 61 + "\nrow" + " x" * 9)


if __name__ == "__main__":
    unittest.main()
