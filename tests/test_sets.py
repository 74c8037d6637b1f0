"""The numbers of some tasks [11]."""

import unittest
from itertools import permutations

from samples import EIGHT, MIDDLE, SMALLEST, all_sets, full_works, many_works, names_of, plain_works, scattered_works
from stationrow.sets import number_of, tasks_of

OF_EIGHT = plain_works(" ".join(EIGHT))


class Numbers(unittest.TestCase):
    def both(self, works, tasks, number):
        """Held to be each other's, the tasks being in their order."""
        with self.subTest(works=works, tasks=tasks):
            told = number_of(works, tasks)
            self.assertEqual(told, number)
            self.assertIs(type(told), int)
            back = tasks_of(works, number)
            self.assertEqual(back, tasks)
            self.assertIs(type(back), tuple)

    def test_none(self):
        for works in many_works():
            self.both(works, (), 0)

    def test_one(self):
        self.both(SMALLEST, ("a",), 1)
        for k, name in enumerate(EIGHT):
            self.both(OF_EIGHT, (name,), (1, 2, 4, 8, 16, 32, 64, 128)[k])

    def test_all(self):
        self.both(OF_EIGHT, EIGHT, 255)
        self.both(full_works(), EIGHT, 255)
        self.both(MIDDLE, ("saw", "drill", "paint"), 7)

    def test_some(self):
        self.both(MIDDLE, ("saw", "paint"), 5)
        self.both(MIDDLE, ("drill", "paint"), 6)
        self.both(OF_EIGHT, ("bb", "dddd", "hhhhhhhh"), 138)
        self.both(OF_EIGHT, EIGHT[:7], 127)
        self.both(OF_EIGHT, EIGHT[1:], 254)

    def test_by_the_tasks_order_not_by_their_names(self):
        self.both(plain_works("c a b"), ("c",), 1)
        self.both(plain_works("c a b"), ("a",), 2)
        self.both(plain_works("c a b"), ("c", "b"), 5)

    def test_a_name_within_another_one(self):
        self.both(plain_works("a aa aaa"), ("aa",), 2)
        self.both(plain_works("aaa aa a"), ("aaa",), 1)

    def test_told_in_another_order_the_number_is_the_same(self):
        for tasks in permutations(("bb", "dddd", "eeeee", "hhhhhhhh")):
            with self.subTest(tasks=tasks):
                self.assertEqual(number_of(OF_EIGHT, tasks), 154)
        self.assertEqual(number_of(OF_EIGHT, EIGHT[::-1]), 255)

    def test_all_sets_there_and_back(self):
        for works in (SMALLEST, MIDDLE, full_works()) + tuple(scattered_works(11)[:16]):
            names = names_of(works)
            met = []
            for tasks in all_sets(works):
                number = sum(2 ** names.index(name) for name in tasks)
                self.both(works, tasks, number)
                met.append(number)
            self.assertEqual(sorted(met), list(range(2 ** len(names))))

    def test_orders_pairs_lengths_and_kinds_are_nothing_to_it(self):
        for works in many_works() + scattered_works(12):
            self.both(works, names_of(works), 2 ** len(works[0]) - 1)

    def test_by_the_names_of_the_arguments(self):
        self.assertEqual(number_of(works=MIDDLE, tasks=("drill",)), 2)
        self.assertEqual(tasks_of(works=MIDDLE, number=2), ("drill",))

    def test_again_told_alike_and_nothing_changed(self):
        before = repr(MIDDLE)
        for turn in range(2):
            self.both(MIDDLE, ("saw", "paint"), 5)
            self.both(OF_EIGHT, EIGHT[2:4], 12)
        self.assertEqual(repr(MIDDLE), before)

    def test_somewhat_beyond_the_bounds_is_not_refused(self):
        self.both(plain_works("a b c d e f g h i j"), ("a", "j"), 513)


if __name__ == "__main__":
    unittest.main()
