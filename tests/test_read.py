"""How a text is read, of anything, and refused [6]."""

import unittest

from samples import EIGHT, MIDDLE, MIDDLE_TEXT, SMALLEST, SMALLEST_TEXT, forward_orders, full_works, many_works
from stationrow.errors import NoRow, NoTask, RowError, Twice
from stationrow.texts import read_works, show_works

TWO = "task a 1\ntask b 2\n"
EIGHT_ROWS = "\n".join(f"task {name} 1" for name in EIGHT) + "\n"
TWELVE_ROWS = "\n".join(f"{word} {EIGHT[k]} {EIGHT[k + 1]}" for word in ("with", "apart") for k in range(6)) + "\n"
ORDER_ROWS = "\n".join(f"order {one} {other}" for one, other in forward_orders()) + "\n"


def plain(value):
    """Whether a value is made of tuples, texts and whole numbers alone."""
    if type(value) is tuple:
        return all(plain(part) for part in value)
    return type(value) in (str, int)


class Reading(unittest.TestCase):
    def refused(self, text, refusal, row):
        with self.subTest(text=text):
            with self.assertRaises(RowError) as caught:
                read_works(text)
            self.assertIs(type(caught.exception), refusal)
            self.assertIs(type(caught.exception.row), int)
            self.assertEqual(caught.exception.row, row)

    def all_refused(self, texts, refusal, row):
        for text in texts:
            self.refused(text, refusal, row)


class Works(Reading):
    def test_ordinary_texts(self):
        self.assertEqual(read_works(SMALLEST_TEXT), SMALLEST)
        self.assertEqual(read_works(MIDDLE_TEXT), MIDDLE)

    def test_what_is_shown_is_read_to_the_works(self):
        for works in many_works():
            with self.subTest(works=works):
                read = read_works(show_works(works))
                self.assertEqual(read, works)
                self.assertTrue(plain(read))

    def test_what_is_read_is_shown_to_the_text(self):
        self.assertEqual(show_works(read_works(MIDDLE_TEXT)), MIDDLE_TEXT)

    def test_rows_in_another_order(self):
        text = (
            "task drill 7\n"
            "task saw 12 wood\n"
            "apart drill saw\n"
            "order saw drill\n"
            "task paint 305 wet wood\n"
            "with paint drill\n"
            "order paint saw\n"
            "row wood wet"
        )
        works = (
            (("drill", 7, ()), ("saw", 12, ("wood",)), ("paint", 305, ("wet", "wood"))),
            (("saw", "drill"), ("paint", "saw")),
            (("apart", "drill", "saw"), ("with", "paint", "drill")),
            ("wood", "wet"),
        )
        self.assertEqual(read_works(text), works)

    def test_pairs_ahead_of_orders_and_tasks_at_the_end(self):
        text = TWO + "with a b\norder a b\ntask c 3\nrow x"
        works = ((("a", 1, ()), ("b", 2, ()), ("c", 3, ())), (("a", "b"),), (("with", "a", "b"),), ("x",))
        self.assertEqual(read_works(text), works)

    def test_words_of_rows_may_be_names(self):
        text = "task task 1 row\ntask row 2 order\ntask with 3 with\norder task row\nwith with row\nrow row task"
        works = (
            (("task", 1, ("row",)), ("row", 2, ("order",)), ("with", 3, ("with",))),
            (("task", "row"),),
            (("with", "with", "row"),),
            ("row", "task"),
        )
        self.assertEqual(read_works(text), works)

    def test_a_kind_may_come_again_elsewhere(self):
        text = "task a 1 x y\ntask b 1 y x\ntask x 1 x\nrow x x y x"
        tasks = (("a", 1, ("x", "y")), ("b", 1, ("y", "x")), ("x", 1, ("x",)))
        self.assertEqual(read_works(text), (tasks, (), (), ("x", "x", "y", "x")))

    def test_lengths_at_the_edges(self):
        for length in (1, 9, 10, 100, 10 ** 59, 10 ** 60 - 1):
            with self.subTest(length=length):
                self.assertEqual(read_works(f"task a {length}\nrow x")[0], (("a", length, ()),))

    def test_as_many_as_allowed(self):
        self.assertEqual(read_works(show_works(full_works())), full_works())
        self.assertEqual(len(read_works(EIGHT_ROWS + "row x")[0]), 8)
        self.assertEqual(len(read_works("task a 1 w x y z\nrow x")[0][0][2]), 4)
        self.assertEqual(len(read_works(EIGHT_ROWS + ORDER_ROWS + "row x")[1]), 28)
        self.assertEqual(len(read_works(EIGHT_ROWS + TWELVE_ROWS + "row x")[2]), 12)
        self.assertEqual(len(read_works("task a 1\nrow" + " x" * 8)[3]), 8)

    def test_all_at_most_together(self):
        works = read_works(EIGHT_ROWS + TWELVE_ROWS + ORDER_ROWS + "row" + " x" * 8)
        self.assertEqual([len(part) for part in works], [8, 28, 12, 8])

    def test_asked_again_told_alike(self):
        first = read_works(MIDDLE_TEXT)
        self.refused("task a 1\ntask a 2\nrow x", Twice, 2)
        read_works(show_works(full_works()))
        self.assertEqual(read_works(MIDDLE_TEXT), first)
        self.refused("task a 1\ntask a 2\nrow x", Twice, 2)


class NoText(Reading):
    def test_what_is_no_text(self):
        things = (
            None, True, False, 0, 1, -1, 1.5, b"", SMALLEST_TEXT.encode(), bytearray(b"row x"), [], [SMALLEST_TEXT],
            (), (SMALLEST_TEXT,), SMALLEST, {}, {SMALLEST_TEXT: 1}, set(), object(), str, len, NoRow(1), range(3),
        )
        self.all_refused(things, NoRow, 0)


class OddRows(Reading):
    def test_the_text_without_a_sign(self):
        self.refused("", NoRow, 1)

    def test_line_ends_and_blanks_alone(self):
        self.all_refused((" ", "\n", "\n\n", "  \n "), NoRow, 1)

    def test_no_task(self):
        self.refused("row x", NoRow, 2)
        self.refused("row x y z", NoRow, 2)

    def test_no_row_at_the_end(self):
        self.refused("task a 1", NoRow, 2)
        self.refused("task a 1\ntask b 2", NoRow, 3)
        self.refused(TWO + "order a b\nwith a b", NoRow, 5)
        self.refused(MIDDLE_TEXT.rpartition("\n")[0], NoRow, 8)

    def test_a_line_end_behind(self):
        self.refused(SMALLEST_TEXT + "\n", NoRow, 3)
        self.refused(SMALLEST_TEXT + "\n\n", NoRow, 3)
        self.refused(MIDDLE_TEXT + "\n", NoRow, 9)
        self.refused("task a 1\n", NoRow, 2)
        self.refused("row x\n", NoRow, 2)

    def test_a_line_end_ahead_or_between(self):
        self.refused("\n" + SMALLEST_TEXT, NoRow, 1)
        self.refused("task a 1\n\nrow x", NoRow, 2)

    def test_a_row_behind_row(self):
        for row in ("task c 1", "order a b", "with a b", "apart a b", "row x", "row", "", "word", "task a 1"):
            self.refused(TWO + "row x\n" + row, NoRow, 4)
        self.refused("row x\ntask a 1", NoRow, 2)
        self.refused("row x\ntask a 1\nrow x", NoRow, 2)

    def test_an_unknown_word(self):
        words = (
            "tasks", "Task", "TASK", "tas", "orders", "Order", "without", "With", "aparts", "rows", "Row", "a", "1",
            "-", "#", "or der",
        )
        for word in words:
            self.refused(TWO + word + " a b\nrow x", NoRow, 3)
            self.refused(TWO + word + "\nrow x", NoRow, 3)

    def test_too_few_words(self):
        rows = ("task", "task c", "order", "order a", "with", "with a", "apart", "apart a", "row")
        self.all_refused([TWO + row + "\nrow x" for row in rows], NoRow, 3)
        self.refused("task a 1\nrow", NoRow, 2)

    def test_too_many_words(self):
        rows = ("order a b c", "order a b a", "with a b c", "with a b 1", "apart a b c", "apart a b b")
        self.all_refused([TWO + "task c 1\n" + row + "\nrow x" for row in rows], NoRow, 4)

    def test_words_in_another_order(self):
        self.all_refused(("task 1 a\nrow x", "a task 1\nrow x", "task a x 1\nrow x"), NoRow, 1)

    def test_blanks(self):
        rows = (
            "task  c 1", "task c  1", "task c 1  x", "task c 1 x  y", " task c 1", "task c 1 ", "task c 1 x ",
            "order  a b", "order a  b", " order a b", "order a b ", "with a  b", " with a b", "with a b ",
            "apart  a b", " apart a b", "apart a b ", "row  x", "row x  y", " row x", "row x ", "row ", "order a ",
            "task c ", "task ", "task\tc 1", "task c 1\tx", "task c 1\t", "order a b\r", "row x\r", "with\ta\tb",
        )
        self.all_refused([TWO + row for row in rows], NoRow, 3)

    def test_other_signs_end_no_row(self):
        for sign in ("\r", "\x0b", "\x0c", "\x1c", "\x85", "\u2028"):
            self.refused("task a 1" + sign + "row x", NoRow, 1)
            self.refused("task a 1\nrow x" + sign, NoRow, 2)
        self.refused("task a 1\r\nrow x", NoRow, 1)

    def test_names(self):
        odd = ("", "abcdefghi", "A", "aB", "Ab", "a1", "1", "a_", "a-b", "a.b", "`", "{", "@", "~", "\u00e4", "\u0430")
        for name in odd:
            self.refused(TWO + f"task {name} 1\nrow x", NoRow, 3)
            self.refused(TWO + f"task c 1 {name}\nrow x", NoRow, 3)
            self.refused(TWO + f"task c 1 x {name}\nrow x", NoRow, 3)
            for word in ("order", "with", "apart"):
                self.refused(TWO + f"{word} a {name}\nrow x", NoRow, 3)
                self.refused(TWO + f"{word} {name} a\nrow x", NoRow, 3)
            self.refused(TWO + f"row {name}", NoRow, 3)
            self.refused(TWO + f"row x {name}", NoRow, 3)

    def test_names_of_eight_letters_are_read(self):
        tasks = (("abcdefgh", 1, ("stuvwxyz",)), ("b", 2, ()))
        text = "task abcdefgh 1 stuvwxyz\ntask b 2\norder abcdefgh b\nrow ijklmnop"
        self.assertEqual(read_works(text), (tasks, (("abcdefgh", "b"),), (), ("ijklmnop",)))

    def test_lengths(self):
        odd = (
            "", "0", "00", "01", "007", "+1", "-1", "--1", "1.0", "1e3", "1_0", "0x1", "a", "1a", "a1", "1,", "/",
            ":", "1" + "0" * 60, "9" * 61, "0" + "9" * 59, "0" + "9" * 60, "9" * 200, "\u0661", "1\u0661", "\u00b2",
        )
        self.all_refused([TWO + f"task c {length}\nrow x" for length in odd], NoRow, 3)

    def test_every_other_sign_in_a_name_or_length(self):
        letters = "abcdefghijklmnopqrstuvwxyz"
        for sign in [chr(k) for k in range(ord(" "), ord("~") + 1)]:
            if sign not in letters:
                self.refused(TWO + f"task c{sign} 1\nrow x", NoRow, 3)
                self.refused(TWO + f"row {sign}x", NoRow, 3)
            if sign not in "0123456789":
                self.refused(TWO + f"task c 1{sign}\nrow x", NoRow, 3)
                self.refused(TWO + f"task c {sign}1\nrow x", NoRow, 3)

    def test_one_task_too_many(self):
        self.refused(EIGHT_ROWS + "task i 1\nrow x", NoRow, 9)
        self.refused(EIGHT_ROWS + "order a bb\ntask i 1\nrow x", NoRow, 10)

    def test_one_kind_too_many(self):
        self.refused("task a 1 v w x y z\nrow x", NoRow, 1)

    def test_one_order_too_many(self):
        self.refused(EIGHT_ROWS + ORDER_ROWS + "order bb a\nrow x", NoRow, 37)
        self.refused(EIGHT_ROWS + ORDER_ROWS + "with a bb\norder bb a\nrow x", NoRow, 38)

    def test_one_pair_too_many(self):
        self.refused(EIGHT_ROWS + TWELVE_ROWS + "with bb a\nrow x", NoRow, 21)
        self.refused(EIGHT_ROWS + TWELVE_ROWS + "apart bb a\nrow x", NoRow, 21)

    def test_one_stand_too_many(self):
        self.refused("task a 1\nrow" + " x" * 9, NoRow, 2)


class ToldTwice(Reading):
    def test_a_name(self):
        self.refused("task a 1\ntask a 1\nrow x", Twice, 2)
        self.refused("task a 1\ntask a 2 x\nrow x", Twice, 2)
        self.refused(TWO + "order a b\ntask a 3\nrow x", Twice, 4)

    def test_an_order(self):
        self.refused(TWO + "order a b\norder a b\nrow x", Twice, 4)
        self.refused(TWO + "order a b\norder b a\nwith a b\norder a b\nrow x", Twice, 6)

    def test_a_pair(self):
        self.refused(TWO + "with a b\nwith a b\nrow x", Twice, 4)
        self.refused(TWO + "apart a b\napart a b\nrow x", Twice, 4)
        self.refused(TWO + "with b a\napart b a\norder b a\nwith b a\nrow x", Twice, 6)

    def test_a_kind(self):
        self.refused("task a 1 x x\nrow x", Twice, 1)
        self.refused("task a 1 x y x\nrow x", Twice, 1)
        self.refused("task a 1\ntask b 1 w x y w\nrow x", Twice, 2)
        self.refused("task a 1\ntask b 1 w x y y\nrow x", Twice, 2)

    def test_the_other_way_about_is_not_twice(self):
        self.assertEqual(read_works(TWO + "order a b\norder b a\nrow x")[1], (("a", "b"), ("b", "a")))
        pairs = (("with", "a", "b"), ("with", "b", "a"), ("apart", "b", "a"), ("apart", "a", "b"))
        rows = "".join(" ".join(pair) + "\n" for pair in pairs)
        self.assertEqual(read_works(TWO + rows + "row x")[2], pairs)

    def test_an_order_and_a_pair_of_the_same_names_are_not_twice(self):
        works = read_works(TWO + "order a b\nwith a b\napart a b\nrow x")
        self.assertEqual(works[1:3], ((("a", "b"),), (("with", "a", "b"), ("apart", "a", "b"))))


class NamesNoTask(Reading):
    def test_not_at_all(self):
        for word in ("order", "with", "apart"):
            self.refused(TWO + f"{word} a c\nrow x", NoTask, 3)
            self.refused(TWO + f"{word} c a\nrow x", NoTask, 3)
            self.refused(TWO + f"{word} c d\nrow x", NoTask, 3)
            self.refused(TWO + f"{word} a bb\nrow x", NoTask, 3)

    def test_later(self):
        for word in ("order", "with", "apart"):
            self.refused(f"task a 1\n{word} a b\ntask b 2\nrow x", NoTask, 2)
            self.refused(f"task a 1\n{word} b a\ntask b 2\nrow x", NoTask, 2)
            self.refused(f"{word} a b\n" + TWO + "row x", NoTask, 1)

    def test_the_same_name_twice(self):
        for word in ("order", "with", "apart"):
            self.refused(TWO + f"{word} a a\nrow x", NoTask, 3)
            self.refused(TWO + f"{word} c c\nrow x", NoTask, 3)

    def test_a_kind_is_no_task(self):
        self.refused("task a 1 x\norder a x\nrow x", NoTask, 2)


class WhichFirst(Reading):
    def test_the_first_odd_row(self):
        self.refused("task a 1\ntask a 1\norder a b\ntask B 1", Twice, 2)
        self.refused("task a 1\norder a b\ntask a 1\ntask B 1", NoTask, 2)
        self.refused("task a 1\ntask B 1\ntask a 1\norder a b", NoRow, 2)
        self.refused("task a 0\ntask b 0\nrow x", NoRow, 1)
        self.refused("order a b", NoTask, 1)
        self.refused("order a b\nrow x", NoTask, 1)
        self.refused("task a 1 x x", Twice, 1)
        self.refused("task a 1\nrow x\n\n\n", NoRow, 3)

    def test_odd_rows_go_ahead_of_the_end(self):
        self.refused("task a 1\ntask a 1", Twice, 2)
        self.refused(TWO + "with a a", NoTask, 3)
        self.refused("row x\nrow x", NoRow, 2)

    def test_no_row_ahead_of_twice(self):
        self.refused("task a 1\ntask a 0\nrow x", NoRow, 2)
        self.refused("task a 1\ntask a 1 X\nrow x", NoRow, 2)
        self.refused("task a 1 x x X\nrow x", NoRow, 1)
        self.refused("task a 1 x x w y z\nrow x", NoRow, 1)
        self.refused(TWO + "order a b\norder a b \nrow x", NoRow, 4)
        self.refused(TWO + "with a b\nwith a b a\nrow x", NoRow, 4)
        self.refused(EIGHT_ROWS + "task a 1\nrow x", NoRow, 9)
        self.refused(EIGHT_ROWS + "task i 1 x x\nrow x", NoRow, 9)
        self.refused(EIGHT_ROWS + ORDER_ROWS + "order a bb\nrow x", NoRow, 37)
        self.refused(EIGHT_ROWS + TWELVE_ROWS + "with a bb\nrow x", NoRow, 21)
        self.refused(TWO + "order a b\nrow x\norder a b", NoRow, 5)

    def test_no_row_ahead_of_no_task(self):
        self.refused(TWO + "order a a a\nrow x", NoRow, 3)
        self.refused(TWO + "order c C\nrow x", NoRow, 3)
        self.refused(TWO + "with c abcdefghi\nrow x", NoRow, 3)
        self.refused(EIGHT_ROWS + ORDER_ROWS + "order a a\nrow x", NoRow, 37)
        self.refused(EIGHT_ROWS + ORDER_ROWS + "order a z\nrow x", NoRow, 37)
        self.refused(EIGHT_ROWS + TWELVE_ROWS + "apart z a\nrow x", NoRow, 21)
        self.refused(TWO + "row x\nwith a c", NoRow, 4)

    def test_twice_in_two_ways(self):
        self.refused("task a 1\ntask a 1 x x\nrow x", Twice, 2)


if __name__ == "__main__":
    unittest.main()
