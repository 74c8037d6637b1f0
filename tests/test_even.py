"""The most even dealing [19], and the table of it [20]."""

import unittest

from samples import (
    EIGHT, LONGEST, MIDDLE, SMALLEST, asked_small, beyond_works, forward_orders, keeps_rules, kept_loads, long_works,
    names_of, other_names, plain_loads, plain_number, plain_works, sized_works, small_works, telling_beats,
    told_otherwise, unlike_works,
)
from stationrow.dealings import fault_of
from stationrow.dealt import dealing_to
from stationrow.even import even_table, most_even
from stationrow.fillings import all_fillings
from stationrow.works import turned_about


def plain_least(works, beat, many):
    """The least sum of the loads' squares of all ways to deal the tasks gone through, or None."""
    kept = [loads for loads in kept_loads(works, many) if max(loads, default=0) <= beat]
    return min([sum(load * load for load in loads) for loads in kept], default=None)


def plain_table(works, beat, many):
    """The table, by all fillings gone through."""
    told = [{(): 0}]
    for kind in works[3][:many]:
        behind = {}
        for done, least in told[-1].items():
            for filling in all_fillings(works, beat, kind, done):
                after = tuple(name for name in names_of(works) if name in done + filling)
                load = sum(plain_loads(works, (filling,)))
                behind.setdefault(after, []).append(least + load * load)
        told.append({after: min(sums) for after, sums in behind.items()})
    rows = [(stands, done, least) for stands, step in enumerate(told) for done, least in step.items()]
    return sorted(rows, key=lambda row: (row[0], plain_number(works, row[1])))


def told_least(works, beat, many):
    even = most_even(works, beat, many)
    return None if even is None else even[0]


class MostEven(unittest.TestCase):
    def even(self, least, works, beat, many):
        with self.subTest(works=works, beat=beat, many=many):
            told = most_even(works, beat, many)
            if least is None:
                self.assertIsNone(told)
                return
            self.assertIs(type(told), tuple)
            self.assertEqual(len(told), 2)
            self.assertIs(type(told[0]), int)
            self.assertEqual(told[0], least)
            dealing = told[1]
            self.assertIs(type(dealing), tuple)
            self.assertEqual(len(dealing), many)
            self.assertIsNone(fault_of(works, beat, dealing))
            self.assertTrue(keeps_rules(works, dealing))
            self.assertEqual(sum(load * load for load in plain_loads(works, dealing)), least)
            places = {name: k for k, name in enumerate(names_of(works))}
            for tasks in dealing:
                self.assertIs(type(tasks), tuple)
                self.assertEqual(list(tasks), sorted(tasks, key=places.get))

    def test_ordinary_ones(self):
        self.even(1, SMALLEST, 1, 1)
        self.even(19 * 19 + 305 * 305, MIDDLE, 305, 2)
        works = sized_works((3, 4, 5))
        self.even(144, works, 12, 1)
        self.even(74, works, 12, 2)
        self.even(50, works, 12, 3)
        self.even(50, works, 12, 8)

    def test_where_there_is_just_one(self):
        self.assertEqual(most_even(SMALLEST, 1, 1), (1, (("a",),)))
        works = plain_works("c b a", (("a", "b"), ("b", "c")), (), ("x", "x", "x"))
        self.assertEqual(most_even(works, 3, 3), (3, (("a",), ("b",), ("c",))))
        self.assertEqual(most_even(works, 3, 1), (9, (("c", "b", "a"),)))

    def test_no_dealing(self):
        self.even(None, SMALLEST, 0, 1)
        self.even(None, SMALLEST, 9, 0)
        self.even(None, MIDDLE, 304, 3)
        self.even(None, MIDDLE, 999, 1)
        self.even(None, sized_works((3, 4, 5)), 6, 2)

    def test_a_greatest_filling_is_not_the_most_even_one(self):
        # All would go to the first stand, yet one to each stand is more even.
        works = plain_works("a b c d", (), (), ("x",) * 4)
        self.even(16, works, 4, 1)
        self.even(8, works, 4, 2)
        self.even(6, works, 4, 3)
        self.even(4, works, 4, 4)

    def test_by_kinds(self):
        works = (
            (("a", 3, ("x",)), ("b", 3, ("x",)), ("c", 3, ("y",)), ("d", 3, ("y",)), ("e", 1, ())), (), (),
            ("x", "y", "z"),
        )
        self.even(36 + 36 + 1, works, 6, 3)
        self.even(36 + 49, works, 7, 2)
        self.even(None, works, 6, 2)

    def test_the_beat_bounds_it(self):
        works = ((("a", 5, ()), ("b", 1, ()), ("c", 1, ())), (("a", "b"), ("a", "c")), (), ("x", "x"))
        self.even(29, works, 5, 2)
        self.even(29, works, 9, 2)
        late = (works[0], (("b", "a"), ("a", "c")), (), ("x", "x"))
        self.even(36 + 1, late, 6, 2)
        self.even(None, late, 5, 2)

    def test_a_greater_beat_may_be_more_even(self):
        # Within 5 the loads are 5, 5 and 1, within 6 they may be 6, 2 and 3.
        tasks = (("a", 5, ("x",)), ("b", 1, ("x", "y")), ("c", 1, ("y",)), ("d", 3, ("y", "z")), ("e", 1, ("y", "z")))
        works = (tasks, (), (("apart", "b", "e"), ("apart", "d", "e")), ("x", "y", "z"))
        self.even(51, works, 5, 3)
        self.even(49, works, 6, 3)
        self.even(49, works, 99, 3)

    def test_held_against_all_ways(self):
        met = {True: 0, False: 0}
        for works, beat, many in asked_small(60, 250):
            least = plain_least(works, beat, many)
            met[least is None] += 1
            self.even(least, works, beat, many)
            self.assertEqual(dealing_to(works, beat, many) is None, least is None)
        self.assertGreater(met[True], 500)
        self.assertGreater(met[False], 500)

    def test_eight_tasks_and_eight_stands(self):
        works = unlike_works()
        self.even(44 * 44, works, 44, 1)
        self.even(22 * 22 * 2, works, 44, 2)
        self.even(15 * 15 * 2 + 14 * 14, works, 44, 3)
        self.even(11 * 11 * 4, works, 44, 4)
        self.even(sum(length * length for name, length, kinds in works[0]), works, 44, 8)
        chained = plain_works(" ".join(reversed(EIGHT)), forward_orders(), (), ("x",) * 8)
        for many, least in enumerate((64, 32, 22, 16, 14, 12, 10, 8), start=1):
            self.even(least, chained, 8, many)

    def test_lengths_of_sixty_figures(self):
        works = long_works()
        self.even((8 * LONGEST - 28) ** 2, works, 10 ** 61 - 1, 1)
        self.even(2 * (4 * LONGEST - 14) ** 2, works, 10 ** 61 - 1, 2)
        self.even(4 * (2 * LONGEST - 7) ** 2, works, 10 ** 61 - 1, 4)
        self.even(sum((LONGEST - k) ** 2 for k in range(8)), works, LONGEST, 8)
        self.even(None, works, LONGEST - 1, 8)

    def test_asked_again_the_same(self):
        asked = asked_small(61, 40)
        first = [most_even(*question) for question in asked]
        again = [most_even(*question) for question in reversed(asked)]
        self.assertEqual(first, again[::-1])

    def test_turned_about_with_all_stands(self):
        for works in small_works(62, 80):
            for beat in telling_beats(works):
                many = len(works[3])
                self.assertEqual(told_least(turned_about(works), beat, many), told_least(works, beat, many))

    def test_other_names_and_another_order(self):
        for works, beat, many in asked_small(63, 60):
            least = told_least(works, beat, many)
            self.assertEqual(told_least(other_names(works), beat, many), least)
            self.assertEqual(told_least(told_otherwise(works), beat, many), least)

    def test_one_stand_more_and_a_greater_beat_are_never_less_even(self):
        for works in small_works(64, 60):
            for beat in telling_beats(works):
                told = [told_least(works, beat, many) for many in range(len(works[3]) + 1)]
                told = [least for least in told if least is not None]
                self.assertEqual(told, sorted(told, reverse=True))
            told = [told_least(works, beat, len(works[3])) for beat in telling_beats(works)]
            told = [least for least in told if least is not None]
            self.assertEqual(told, sorted(told, reverse=True))

    def test_more_stands_than_the_row_has(self):
        self.even(None, SMALLEST, 1, 2)

    def test_somewhat_beyond_the_bounds_is_not_refused(self):
        self.even(9 * 10 ** 122, beyond_works(), 10 ** 61, 9)
        self.even(None, beyond_works(), 10 ** 61, 8)

    def test_nothing_handed_in_is_changed(self):
        for works in small_works(65, 20):
            before = repr(works)
            most_even(works, 9, len(works[3]))
            even_table(works, 9, len(works[3]))
            self.assertEqual(repr(works), before)

    def test_by_the_names_of_the_arguments(self):
        self.assertEqual(most_even(works=SMALLEST, beat=1, many=1), (1, (("a",),)))
        self.assertEqual(even_table(works=SMALLEST, beat=1, many=0), [(0, (), 0)])


class Table(unittest.TestCase):
    def table(self, rows, works, beat, many):
        with self.subTest(works=works, beat=beat, many=many):
            told = even_table(works, beat, many)
            self.assertEqual(told, rows)
            self.assertIs(type(told), list)
            for row in told:
                self.assertIs(type(row), tuple)
                self.assertEqual([type(part) for part in row], [int, tuple, int])

    def test_no_stands(self):
        for works in small_works(66, 20) + [SMALLEST, MIDDLE, long_works()]:
            for beat in (0, 9, 10 ** 61 - 1):
                self.table([(0, (), 0)], works, beat, 0)

    def test_ordinary_ones(self):
        self.table([(0, (), 0), (1, (), 0), (1, ("a",), 1)], SMALLEST, 1, 1)
        self.table([(0, (), 0), (1, (), 0)], SMALLEST, 0, 1)
        works = ((("a", 3, ()), ("b", 4, ())), (("a", "b"),), (), ("x", "x"))
        ahead = [(0, (), 0), (1, (), 0), (1, ("a",), 9)]
        self.table(ahead + [(1, ("a", "b"), 49)], works, 7, 1)
        self.table(ahead, works, 6, 1)
        behind = [(2, (), 0), (2, ("a",), 9), (2, ("a", "b"), 25)]
        self.table(ahead + [(1, ("a", "b"), 49)] + behind, works, 7, 2)
        self.table(ahead + behind, works, 6, 2)
        self.table(ahead + behind[:2], works, 3, 2)

    def test_by_the_numbers_of_the_dones(self):
        works = sized_works((1, 2, 3), row=("x",))
        squares = [(1, (), 0), (1, ("a",), 1), (1, ("bb",), 4), (1, ("a", "bb"), 9), (1, ("ccc",), 9)]
        more = [(1, ("a", "ccc"), 16), (1, ("bb", "ccc"), 25), (1, ("a", "bb", "ccc"), 36)]
        self.table([(0, (), 0)] + squares + more, works, 6, 1)
        self.table([(0, (), 0)] + squares, works, 3, 1)

    def test_groups_apart_pairs_and_kinds(self):
        works = (
            (("a", 1, ()), ("b", 2, ("y",)), ("c", 3, ())), (), (("with", "c", "a"), ("apart", "a", "b")), ("x", "y"),
        )
        rows = [(0, (), 0), (1, (), 0), (1, ("a", "c"), 16)]
        rows += [(2, (), 0), (2, ("b",), 4), (2, ("a", "c"), 16), (2, ("a", "b", "c"), 20)]
        self.table(rows, works, 9, 2)

    def test_the_least_of_several_ways(self):
        works = plain_works("a b", (), (), ("x", "x", "x"))
        table = even_table(works, 2, 3)
        self.assertIn((1, ("a", "b"), 4), table)
        self.assertIn((2, ("a", "b"), 2), table)
        self.assertIn((3, ("a", "b"), 2), table)

    def test_held_against_all_fillings(self):
        for works, beat, many in asked_small(67, 80):
            self.table(plain_table(works, beat, many), works, beat, many)

    def test_held_against_all_fillings_of_eight(self):
        chained = plain_works(" ".join(reversed(EIGHT)), forward_orders(), (), ("x",) * 8)
        self.table(plain_table(chained, 3, 8), chained, 3, 8)
        self.table(plain_table(unlike_works(), 9, 2), unlike_works(), 9, 2)

    def test_to_fewer_stands_is_the_beginning_of_the_one_to_more(self):
        for works in small_works(68, 40):
            for beat in telling_beats(works):
                whole = even_table(works, beat, len(works[3]))
                for many in range(len(works[3])):
                    fewer = even_table(works, beat, many)
                    self.assertEqual(fewer, whole[:len(fewer)])
                    self.assertEqual({row[0] for row in whole[len(fewer):]}, set(range(many + 1, len(works[3]) + 1)))

    def test_sorted_and_none_twice(self):
        for works, beat, many in asked_small(69, 40):
            places = [(stands, plain_number(works, done)) for stands, done, least in even_table(works, beat, many)]
            self.assertEqual(places, sorted(set(places)))

    def test_each_time_a_new_list(self):
        works = sized_works((1, 2, 3))
        for many in (0, 1, 3):
            first = even_table(works, 6, many)
            kept = list(first)
            second = even_table(works, 6, many)
            self.assertIsNot(second, first)
            first.clear()
            self.assertEqual(second, kept)
            self.assertEqual(even_table(works, 6, many), kept)
            self.assertEqual(most_even(works, 6, 3)[0], 14)
            second.append("more")
            self.assertEqual(even_table(works, 6, many), kept)

    def test_the_most_even_dealing_is_its_least_of_all_done(self):
        for works, beat, many in asked_small(70, 80):
            with self.subTest(works=works, beat=beat, many=many):
                table = {(stands, done): least for stands, done, least in even_table(works, beat, many)}
                self.assertEqual(told_least(works, beat, many), table.get((many, names_of(works))))


if __name__ == "__main__":
    unittest.main()
