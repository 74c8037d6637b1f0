"""Fillings: what is one, all of them, and the greatest ones [10, 11]."""

import unittest

from samples import (
    EIGHT, LONGEST, MIDDLE, SMALLEST, all_sets, beyond_works, chain_table, dones_of, forward_orders, is_closed,
    long_works, names_of, plain_number, plain_works, scattered_works, stands_check,
)
from stationrow.fillings import all_fillings, greatest_fillings, is_filling


def has_group(works):
    chains = chain_table(works)
    return any((other, one) in chains for one, other in chains)


def some_works():
    """Works of one to six tasks that stand the check; many of them have groups of several tasks."""
    told = [works for seed in range(10, 16) for works in scattered_works(seed) if len(works[0]) <= 6]
    stood = [works for works in told if stands_check(works)]
    return [works for works in stood if has_group(works)][:24] + stood[::24] + [SMALLEST]


SOME_WORKS = some_works()


def keeps_all(works, beat, kind, done, tasks):
    """Whether tasks are a filling, point by point as the document tells it."""
    chains = chain_table(works)
    lengths = {name: length for name, length, kinds in works[0]}
    kinds = {name: told for name, length, told in works[0]}
    for task in tasks:
        into = {one for one, other in chains if other == task}
        onward = {other for one, other in chains if one == task}
        if task in done or not (into & onward) <= set(tasks):
            return False
        if not (into - onward) <= set(tasks) | set(done):
            return False
        if kinds[task] != () and kind not in kinds[task]:
            return False
    if any(word == "apart" and one in tasks and other in tasks for word, one, other in works[2]):
        return False
    return sum(lengths[task] for task in tasks) <= beat


def asked_of(works):
    """Beats, kinds and dones that some works is asked with."""
    dones = dones_of(works)
    told = []
    for kind in sorted(set(works[3]))[:2] + ["nowhere"]:
        for beat in (0, 7, 12, 100):
            told += [(beat, kind, done) for done in dones[:: max(1, len(dones) // 4)]]
    return told


class OneFilling(unittest.TestCase):
    def told(self, answer, works, beat, kind, done, tasks):
        with self.subTest(works=works, beat=beat, kind=kind, done=done, tasks=tasks):
            self.assertIs(is_filling(works, beat, kind, done, tasks), answer)

    def test_ordinary_ones(self):
        works = plain_works("a b c")
        for tasks in all_sets(works):
            self.told(True, works, 3, "x", (), tasks)
        self.told(True, MIDDLE, 19, "wood", (), ("saw", "drill"))
        self.told(True, MIDDLE, 305, "wet", ("saw", "drill"), ("paint",))

    def test_none_at_all(self):
        for works in SOME_WORKS:
            for done in dones_of(works):
                self.told(True, works, 0, "x", done, ())
        self.told(True, plain_works("a"), 0, "nowhere", ("a",), ())

    def test_a_task_that_is_done(self):
        works = plain_works("a b c", (("a", "b"),))
        self.told(False, works, 9, "x", ("a",), ("a",))
        self.told(False, works, 9, "x", ("a",), ("a", "b"))
        self.told(False, works, 9, "x", ("c",), ("a", "c"))
        self.told(False, works, 9, "x", ("a", "b", "c"), ("a", "b", "c"))
        self.told(True, works, 9, "x", ("a",), ("b",))
        self.told(True, works, 9, "x", (), ("a", "b"))

    def test_a_group_that_is_not_whole(self):
        for pair in (("with", "a", "c"), ("with", "c", "a")):
            works = plain_works("a b c", (), (pair,))
            self.told(False, works, 9, "x", (), ("a",))
            self.told(False, works, 9, "x", (), ("c",))
            self.told(False, works, 9, "x", (), ("b", "c"))
            self.told(True, works, 9, "x", (), ("a", "c"))
            self.told(True, works, 9, "x", (), ("b",))

    def test_a_group_by_a_chain_there_and_back(self):
        works = plain_works("a b c d", (("a", "b"), ("c", "a")), (("with", "b", "c"),))
        for tasks in (("a",), ("b", "c"), ("a", "b"), ("a", "c"), ("b", "c", "d")):
            self.told(False, works, 9, "x", (), tasks)
        self.told(True, works, 9, "x", (), ("a", "b", "c"))

    def test_a_task_ahead_that_is_neither_in_it_nor_done(self):
        works = plain_works("a b c d", (("a", "b"), ("b", "c")))
        self.told(False, works, 9, "x", (), ("b",))
        self.told(False, works, 9, "x", (), ("a", "c"))
        self.told(False, works, 9, "x", (), ("b", "c"))
        self.told(False, works, 9, "x", ("a",), ("c", "d"))
        self.told(True, works, 9, "x", ("a",), ("b",))
        self.told(True, works, 9, "x", ("a",), ("b", "c"))
        self.told(True, works, 9, "x", ("a", "b"), ("c",))
        self.told(True, works, 9, "x", (), ("a", "b", "c"))
        self.told(True, works, 9, "x", (), ("a",))

    def test_a_task_ahead_by_a_with_pair(self):
        works = plain_works("a b c", (("a", "b"),), (("with", "c", "b"),))
        self.told(False, works, 9, "x", (), ("b", "c"))
        self.told(True, works, 9, "x", ("a",), ("b", "c"))

    def test_what_is_behind_need_not_be_there(self):
        works = plain_works("b a", (("a", "b"),))
        self.told(True, works, 9, "x", (), ("a",))
        self.told(False, works, 9, "x", (), ("b",))

    def test_an_apart_pair(self):
        for pair in (("apart", "a", "c"), ("apart", "c", "a")):
            works = plain_works("a b c", (), (pair,))
            self.told(False, works, 9, "x", (), ("a", "c"))
            self.told(False, works, 9, "x", (), ("a", "b", "c"))
            self.told(True, works, 9, "x", (), ("a", "b"))
            self.told(True, works, 9, "x", (), ("b", "c"))
            self.told(True, works, 9, "x", ("a",), ("b", "c"))
            self.told(True, works, 9, "x", ("a",), ("c",))

    def test_one_apart_pair_of_several(self):
        works = plain_works("a b c d", (), (("apart", "a", "b"), ("apart", "c", "d"), ("apart", "a", "d")))
        for tasks in (("a", "b"), ("c", "d"), ("a", "d"), ("a", "c", "d")):
            self.told(False, works, 9, "x", (), tasks)
        for tasks in (("a", "c"), ("b", "c"), ("b", "d")):
            self.told(True, works, 9, "x", (), tasks)

    def test_a_task_that_may_not_be_done_at_the_kind(self):
        works = ((("a", 1, ("x",)), ("b", 1, ("y", "x")), ("c", 1, ())), (), (), ("x", "y"))
        self.told(False, works, 9, "y", (), ("a",))
        self.told(False, works, 9, "y", (), ("a", "b"))
        self.told(True, works, 9, "y", (), ("b", "c"))
        self.told(True, works, 9, "x", (), ("a", "b", "c"))
        self.told(True, works, 9, "y", ("a",), ("b",))

    def test_a_kind_that_the_row_does_not_have(self):
        works = ((("a", 1, ("x",)), ("b", 1, ("x", "z")), ("c", 1, ())), (), (), ("x",))
        self.told(False, works, 9, "z", (), ("a",))
        self.told(True, works, 9, "z", (), ("b", "c"))
        self.told(False, works, 9, "q", (), ("b",))
        self.told(True, works, 9, "q", (), ("c",))

    def test_a_load_above_the_beat_by_one(self):
        works = ((("a", 3, ()), ("b", 4, ()), ("c", 5, ())), (), (), ("x",))
        for tasks, load in ((("a",), 3), (("b",), 4), (("a", "b"), 7), (("a", "c"), 8), (("a", "b", "c"), 12)):
            self.told(False, works, load - 1, "x", (), tasks)
            self.told(True, works, load, "x", (), tasks)
            self.told(True, works, load + 1, "x", (), tasks)
        self.told(True, works, 5, "x", ("a", "b"), ("c",))
        self.told(False, works, 4, "x", ("a", "b"), ("c",))

    def test_a_beat_of_nought(self):
        self.told(False, plain_works("a b"), 0, "x", (), ("a",))
        self.told(False, plain_works("a b"), 0, "x", ("b",), ("a",))
        self.told(True, plain_works("a b"), 0, "x", ("b",), ())

    def test_lengths_of_sixty_figures(self):
        works = long_works()
        load = 8 * LONGEST - 28
        self.told(True, works, load, "x", (), EIGHT)
        self.told(False, works, load - 1, "x", (), EIGHT)
        self.told(True, works, 10 ** 61 - 1, "x", (), EIGHT)
        self.told(True, works, LONGEST, "x", (), EIGHT[:1])
        self.told(False, works, LONGEST - 1, "x", (), EIGHT[:1])
        self.told(False, works, LONGEST, "x", (), EIGHT[:2])

    def test_all_sets_of_some_works(self):
        met = {True: 0, False: 0}
        for works in SOME_WORKS:
            for beat, kind, done in asked_of(works):
                for tasks in all_sets(works):
                    answer = keeps_all(works, beat, kind, done, tasks)
                    met[answer] += 1
                    self.told(answer, works, beat, kind, done, tasks)
        self.assertGreater(met[True], 1000)
        self.assertGreater(met[False], 1000)

    def test_by_the_names_of_the_arguments(self):
        works = plain_works("a b")
        self.assertIs(is_filling(works=works, beat=1, kind="x", done=("a",), tasks=("b",)), True)
        self.assertEqual(all_fillings(works=works, beat=1, kind="x", done=("a",)), [(), ("b",)])
        self.assertEqual(greatest_fillings(works=works, beat=1, kind="x", done=("a",)), [("b",)])


class ListOfFillings(unittest.TestCase):
    def listed(self, works, beat, kind, done, fillings, greatest):
        with self.subTest(works=works, beat=beat, kind=kind, done=done):
            self.assertEqual(all_fillings(works, beat, kind, done), fillings)
            self.assertEqual(greatest_fillings(works, beat, kind, done), greatest)

    def test_one_task(self):
        self.listed(SMALLEST, 1, "x", (), [(), ("a",)], [("a",)])
        self.listed(SMALLEST, 0, "x", (), [()], [()])
        self.listed(SMALLEST, 1, "x", ("a",), [()], [()])

    def test_rising_by_their_numbers(self):
        fillings = [(), ("c",), ("a",), ("c", "a"), ("b",), ("c", "b"), ("a", "b"), ("c", "a", "b")]
        self.listed(plain_works("c a b"), 3, "x", (), fillings, [("c", "a", "b")])
        self.listed(plain_works("c a b"), 2, "x", (), fillings[:7], [("c", "a"), ("c", "b"), ("a", "b")])
        self.listed(plain_works("c a b"), 1, "x", (), [(), ("c",), ("a",), ("b",)], [("c",), ("a",), ("b",)])

    def test_with_orders(self):
        works = plain_works("a b c", (("c", "b"),))
        self.listed(works, 2, "x", (), [(), ("a",), ("c",), ("a", "c"), ("b", "c")], [("a", "c"), ("b", "c")])
        self.listed(works, 2, "x", ("c",), [(), ("a",), ("b",), ("a", "b")], [("a", "b")])

    def test_with_groups_and_apart_pairs(self):
        works = plain_works("a b c d", (), (("with", "d", "a"), ("apart", "b", "c")))
        fillings = [(), ("b",), ("c",), ("a", "d"), ("a", "b", "d"), ("a", "c", "d")]
        self.listed(works, 9, "x", (), fillings, fillings[4:])
        self.listed(works, 2, "x", (), fillings[:4], fillings[1:4])
        self.listed(works, 1, "x", (), fillings[:3], fillings[1:3])

    def test_a_greatest_one_of_fewer_tasks(self):
        works = ((("a", 5, ()), ("b", 1, ()), ("c", 2, ()), ("d", 2, ())), (), (), ("x",))
        fillings = [(), ("a",), ("b",), ("c",), ("b", "c"), ("d",), ("b", "d"), ("c", "d"), ("b", "c", "d")]
        self.listed(works, 5, "x", (), fillings, [("a",), ("b", "c", "d")])

    def test_all_of_eight(self):
        works = plain_works(" ".join(EIGHT))
        names = names_of(works)
        sets = sorted(all_sets(works), key=lambda tasks: plain_number(works, tasks))
        self.listed(works, 8, "x", (), sets, [names])
        self.listed(works, 8, "x", names, [()], [()])
        self.listed(works, 0, "x", (), [()], [()])
        fours = [tasks for tasks in sets if len(tasks) == 4]
        self.listed(works, 4, "x", (), [tasks for tasks in sets if len(tasks) <= 4], fours)
        chained = plain_works(" ".join(EIGHT), forward_orders())
        self.listed(chained, 8, "x", EIGHT[:3], [EIGHT[3:k] for k in range(3, 9)], [EIGHT[3:]])

    def test_a_kind_that_the_row_does_not_have(self):
        works = ((("a", 1, ("x",)), ("b", 1, ("x", "z")), ("c", 1, ())), (), (), ("x",))
        self.listed(works, 9, "z", (), [(), ("b",), ("c",), ("b", "c")], [("b", "c")])
        self.listed(works, 9, "q", (), [(), ("c",)], [("c",)])

    def test_lengths_of_sixty_figures(self):
        works = ((("a", LONGEST, ()), ("b", LONGEST - 1, ()), ("c", 1, ())), (), (), ("x",))
        fillings = [(), ("a",), ("b",), ("c",), ("b", "c")]
        self.listed(works, LONGEST, "x", (), fillings, [("a",), ("b", "c")])
        self.listed(works, LONGEST + 1, "x", (), fillings[:4] + [("a", "c"), ("b", "c")], [("a", "c"), ("b", "c")])

    def test_just_the_sets_that_are_fillings(self):
        for works in SOME_WORKS:
            sets = sorted(all_sets(works), key=lambda tasks: plain_number(works, tasks))
            for beat, kind, done in asked_of(works):
                with self.subTest(works=works, beat=beat, kind=kind, done=done):
                    fillings = all_fillings(works, beat, kind, done)
                    self.assertEqual(fillings, [s for s in sets if is_filling(works, beat, kind, done, s)])
                    self.assertEqual(fillings, [s for s in sets if keeps_all(works, beat, kind, done, s)])
                    self.assertEqual(fillings[0], ())

    def test_greatest_are_those_of_which_no_other_has_all(self):
        for works in SOME_WORKS:
            for beat, kind, done in asked_of(works):
                with self.subTest(works=works, beat=beat, kind=kind, done=done):
                    fillings = all_fillings(works, beat, kind, done)
                    kept = [f for f in fillings if not any(set(f) < set(other) for other in fillings)]
                    self.assertEqual(greatest_fillings(works, beat, kind, done), kept)

    def test_a_greater_beat_has_all_fillings_of_a_lesser_one(self):
        for works in SOME_WORKS:
            for kind in sorted(set(works[3])):
                lesser = set()
                for beat in range(0, 30, 3):
                    with self.subTest(works=works, beat=beat, kind=kind):
                        fillings = set(all_fillings(works, beat, kind, ()))
                        self.assertLessEqual(lesser, fillings)
                        lesser = fillings

    def test_behind_a_filling_there_is_a_done(self):
        for works in SOME_WORKS:
            for beat, kind, done in asked_of(works):
                for filling in all_fillings(works, beat, kind, done):
                    self.assertTrue(is_closed(works, done + filling))

    def test_somewhat_beyond_the_bounds_is_not_refused(self):
        works = beyond_works()
        names = names_of(works)
        self.listed(works, 10 ** 62, "x", (), [names[:k] for k in range(10)], [names])
        self.listed(works, 2 * 10 ** 61, "x", (), [names[:k] for k in range(3)], [names[:2]])


class OwnLists(unittest.TestCase):
    def test_lists_of_tuples_of_texts(self):
        for works in SOME_WORKS:
            for told in (all_fillings(works, 12, works[3][0], ()), greatest_fillings(works, 12, works[3][0], ())):
                self.assertIs(type(told), list)
                self.assertEqual({type(filling) for filling in told}, {tuple})
                self.assertTrue(all(type(name) is str for filling in told for name in filling))

    def test_each_time_a_new_one(self):
        works = plain_works("a b c", (("a", "b"),))
        for asked in (all_fillings, greatest_fillings):
            with self.subTest(asked=asked):
                first = asked(works, 2, "x", ())
                kept = list(first)
                second = asked(works, 2, "x", ())
                self.assertEqual(second, kept)
                self.assertIsNot(second, first)
                first.clear()
                self.assertEqual(second, kept)
                self.assertEqual(asked(works, 2, "x", ()), kept)
                self.assertEqual(asked(plain_works("a"), 0, "x", ("a",)), [()])
                self.assertEqual(second, kept)

    def test_where_there_is_one_filling_alone(self):
        for asked in (all_fillings, greatest_fillings):
            first = asked(SMALLEST, 0, "x", ())
            first.append("more")
            self.assertEqual(asked(SMALLEST, 0, "x", ()), [()])

    def test_nothing_handed_in_is_changed(self):
        for works in SOME_WORKS:
            before = repr(works)
            done = dones_of(works)[-1]
            all_fillings(works, 9, "x", done)
            greatest_fillings(works, 9, "x", done)
            is_filling(works, 9, "x", done, ())
            self.assertEqual(repr(works), before)
            self.assertEqual(done, dones_of(works)[-1])


if __name__ == "__main__":
    unittest.main()
