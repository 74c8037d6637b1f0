"""Groups, and what must be done ahead of a task and behind it [8]."""

import unittest

from samples import (
    EIGHT, SMALLEST, chain_table, full_works, many_works, names_of, plain_works, renamed, scattered_works,
    told_otherwise,
)
from stationrow.chains import ahead_of, behind_of, groups_of
from stationrow.works import turned_about

ALL_WORKS = many_works() + scattered_works(8)

OTHER_NAMES = dict(zip(EIGHT, ("zz", "y", "xxxxxxxx", "a", "w", "hhhhhhhh", "m", "bb")))


class Groups(unittest.TestCase):
    def grouped(self, works, groups):
        with self.subTest(works=works):
            self.assertEqual(groups_of(works), groups)

    def test_one_task(self):
        self.grouped(SMALLEST, (("a",),))

    def test_each_task_is_a_group_where_nothing_joins(self):
        self.grouped(plain_works("b a"), (("b",), ("a",)))
        self.grouped(plain_works(" ".join(EIGHT)), tuple((name,) for name in EIGHT))

    def test_orders_one_way_join_nothing(self):
        self.grouped(plain_works("a b c", (("a", "b"), ("b", "c"), ("a", "c"))), (("a",), ("b",), ("c",)))
        self.grouped(plain_works("a b c", (("c", "b"), ("b", "a"))), (("a",), ("b",), ("c",)))

    def test_a_with_pair_joins_either_name_first(self):
        self.grouped(plain_works("a b c", (), (("with", "a", "c"),)), (("a", "c"), ("b",)))
        self.grouped(plain_works("a b c", (), (("with", "c", "a"),)), (("a", "c"), ("b",)))

    def test_with_pairs_join_by_further_tasks(self):
        pairs = (("with", "d", "b"), ("with", "a", "d"), ("with", "b", "e"))
        self.grouped(plain_works("a b c d e", (), pairs), (("a", "b", "d", "e"), ("c",)))

    def test_a_ring_of_orders_joins(self):
        self.grouped(plain_works("a b", (("a", "b"), ("b", "a"))), (("a", "b"),))
        self.grouped(plain_works("a b c d", (("d", "b"), ("b", "a"), ("a", "d"))), (("a", "b", "d"), ("c",)))

    def test_ways_to_a_ring_and_off_it_join_nothing(self):
        orders = (("a", "b"), ("b", "c"), ("c", "b"), ("c", "d"))
        self.grouped(plain_works("a b c d", orders), (("a",), ("b", "c"), ("d",)))

    def test_orders_and_with_pairs_only_together(self):
        orders = (("a", "b"), ("c", "a"))
        pairs = (("with", "b", "c"),)
        self.grouped(plain_works("a b c", orders, pairs), (("a", "b", "c"),))
        self.grouped(plain_works("a b c", orders, (("with", "c", "b"),)), (("a", "b", "c"),))
        self.grouped(plain_works("a b c", orders), (("a",), ("b",), ("c",)))
        self.grouped(plain_works("a b c", orders[:1], pairs), (("a",), ("b", "c")))
        self.grouped(plain_works("a b c", orders[1:], pairs), (("a",), ("b", "c")))

    def test_two_with_pairs_joined_by_orders_there_and_back(self):
        pairs = (("with", "a", "b"), ("with", "c", "d"))
        self.grouped(plain_works("a b c d", (("a", "c"),), pairs), (("a", "b"), ("c", "d")))
        self.grouped(plain_works("a b c d", (("a", "c"), ("d", "b")), pairs), (("a", "b", "c", "d"),))

    def test_apart_pairs_join_nothing(self):
        pairs = (("apart", "a", "b"), ("apart", "b", "a"), ("apart", "c", "a"))
        self.grouped(plain_works("a b c", (), pairs), (("a",), ("b",), ("c",)))
        self.grouped(plain_works("a b c", (("a", "b"),), pairs), (("a",), ("b",), ("c",)))
        self.grouped(plain_works("a b", (), (("with", "a", "b"), ("apart", "a", "b"))), (("a", "b"),))

    def test_by_their_first_tasks_in_the_tasks_order(self):
        pairs = (("with", "a", "d"), ("with", "b", "c"))
        self.grouped(plain_works("d b a c", (), pairs), (("d", "a"), ("b", "c")))
        self.grouped(plain_works("c a b d", (), pairs), (("c", "b"), ("a", "d")))
        self.grouped(plain_works("d c b a", (("a", "b"),), pairs), (("d", "a"), ("c", "b")))

    def test_all_of_eight(self):
        orders = tuple(zip(EIGHT, EIGHT[1:] + EIGHT[:1]))
        self.grouped(plain_works(" ".join(EIGHT), orders), (EIGHT,))
        self.grouped(plain_works(" ".join(EIGHT), orders[::-1]), (EIGHT,))
        self.grouped(full_works(), (EIGHT[:5], EIGHT[5:6], EIGHT[6:7], EIGHT[7:]))

    def test_each_task_is_in_just_one(self):
        for works in ALL_WORKS:
            with self.subTest(works=works):
                names = names_of(works)
                groups = groups_of(works)
                self.assertEqual(sorted(name for group in groups for name in group), sorted(names))
                self.assertEqual([group[0] for group in groups], sorted((g[0] for g in groups), key=names.index))
                for group in groups:
                    self.assertEqual(group, tuple(sorted(group, key=names.index)))

    def test_just_those_that_chains_lead_to_and_back(self):
        for works in ALL_WORKS:
            with self.subTest(works=works):
                chains = chain_table(works)
                groups = groups_of(works)
                names = names_of(works)
                for one in names:
                    for other in names:
                        shared = one == other or ((one, other) in chains and (other, one) in chains)
                        self.assertEqual(any(one in group and other in group for group in groups), shared)

    def test_made_of_tuples_and_texts(self):
        for works in ALL_WORKS:
            groups = groups_of(works)
            self.assertIs(type(groups), tuple)
            self.assertEqual({type(group) for group in groups}, {tuple})
            self.assertEqual({type(name) for group in groups for name in group}, {str})

    def test_named_otherwise_and_told_in_another_order(self):
        for works in scattered_works(81):
            with self.subTest(works=works):
                other = told_otherwise(renamed(works, OTHER_NAMES))
                told = {frozenset(OTHER_NAMES[name] for name in group) for group in groups_of(works)}
                self.assertEqual({frozenset(group) for group in groups_of(other)}, told)

    def test_turned_about_the_groups_are_the_same(self):
        for works in ALL_WORKS:
            with self.subTest(works=works):
                self.assertEqual(groups_of(turned_about(works)), groups_of(works))

    def test_somewhat_beyond_the_bounds_is_not_refused(self):
        names = "a b c d e f g h i j"
        orders = tuple(zip(names.split(), names.split()[1:]))
        self.grouped(plain_works(names, orders + (("j", "c"),)), (("a",), ("b",), tuple("cdefghij")))


class AheadAndBehind(unittest.TestCase):
    def sides(self, works, task, ahead, behind):
        with self.subTest(works=works, task=task):
            self.assertEqual(ahead_of(works, task), ahead)
            self.assertEqual(behind_of(works, task), behind)

    def test_nothing(self):
        self.sides(SMALLEST, "a", (), ())
        for name in EIGHT:
            self.sides(plain_works(" ".join(EIGHT)), name, (), ())

    def test_by_one_order(self):
        works = plain_works("a b c", (("a", "b"),))
        self.sides(works, "a", (), ("b",))
        self.sides(works, "b", ("a",), ())
        self.sides(works, "c", (), ())

    def test_by_further_tasks(self):
        works = plain_works("a b c d", (("c", "d"), ("a", "b"), ("b", "c")))
        self.sides(works, "a", (), ("b", "c", "d"))
        self.sides(works, "b", ("a",), ("c", "d"))
        self.sides(works, "c", ("a", "b"), ("d",))
        self.sides(works, "d", ("a", "b", "c"), ())

    def test_by_a_with_pair(self):
        for pair in (("with", "b", "c"), ("with", "c", "b")):
            works = plain_works("a b c d", (("a", "b"), ("b", "d")), (pair,))
            self.sides(works, "a", (), ("b", "c", "d"))
            self.sides(works, "b", ("a",), ("d",))
            self.sides(works, "c", ("a",), ("d",))
            self.sides(works, "d", ("a", "b", "c"), ())

    def test_not_by_an_apart_pair(self):
        works = plain_works("a b c", (("a", "b"),), (("apart", "b", "c"), ("apart", "a", "c")))
        self.sides(works, "a", (), ("b",))
        self.sides(works, "b", ("a",), ())
        self.sides(works, "c", (), ())

    def test_side_by_side_tasks_are_on_no_side(self):
        works = plain_works("a b c d", (("a", "b"), ("a", "c"), ("b", "d"), ("c", "d")))
        self.sides(works, "b", ("a",), ("d",))
        self.sides(works, "c", ("a",), ("d",))

    def test_never_of_the_own_group(self):
        ring = plain_works("a b c d e", (("a", "b"), ("b", "c"), ("c", "d"), ("d", "b"), ("d", "e")))
        for name in ("b", "c", "d"):
            self.sides(ring, name, ("a",), ("e",))
        self.sides(ring, "a", (), ("b", "c", "d", "e"))
        self.sides(ring, "e", ("a", "b", "c", "d"), ())
        self.sides(plain_works("a b", (), (("with", "a", "b"),)), "a", (), ())
        self.sides(plain_works("a b", (("a", "b"),), (("with", "a", "b"),)), "b", (), ())

    def test_an_order_within_a_group_is_on_no_side(self):
        works = plain_works("a b c", (("a", "b"), ("c", "a")), (("with", "b", "c"),))
        for name in ("a", "b", "c"):
            self.sides(works, name, (), ())

    def test_in_the_tasks_order(self):
        works = plain_works("d b e a c", (("a", "c"), ("b", "c"), ("c", "e"), ("c", "d")))
        self.sides(works, "c", ("b", "a"), ("d", "e"))
        self.sides(works, "d", ("b", "a", "c"), ())
        self.sides(works, "a", (), ("d", "e", "c"))

    def test_all_of_eight(self):
        for k, name in enumerate(EIGHT):
            orders = tuple(zip(EIGHT, EIGHT[1:]))[::-1]
            self.sides(plain_works(" ".join(EIGHT), orders), name, EIGHT[:k], EIGHT[k + 1:])
        self.sides(full_works(), "ccc", (), EIGHT[5:])
        self.sides(full_works(), "ggggggg", EIGHT[:6], EIGHT[7:])

    def test_just_those_from_which_chains_lead_one_way(self):
        for works in ALL_WORKS:
            chains = chain_table(works)
            names = names_of(works)
            for task in names:
                into = [one for one in names if (one, task) in chains and (task, one) not in chains]
                onward = [one for one in names if (task, one) in chains and (one, task) not in chains]
                self.sides(works, task, tuple(into), tuple(onward))

    def test_one_is_ahead_where_the_other_is_behind(self):
        for works in ALL_WORKS:
            with self.subTest(works=works):
                for one in names_of(works):
                    for other in names_of(works):
                        self.assertEqual(one in ahead_of(works, other), other in behind_of(works, one))

    def test_turned_about_they_are_exchanged(self):
        for works in ALL_WORKS:
            for task in names_of(works):
                self.sides(turned_about(works), task, behind_of(works, task), ahead_of(works, task))

    def test_named_otherwise_and_told_in_another_order(self):
        for works in scattered_works(82):
            other = told_otherwise(renamed(works, OTHER_NAMES))
            for task in names_of(works):
                ahead = tuple(OTHER_NAMES[name] for name in reversed(ahead_of(works, task)))
                behind = tuple(OTHER_NAMES[name] for name in reversed(behind_of(works, task)))
                self.sides(other, OTHER_NAMES[task], ahead, behind)

    def test_made_of_tuples_and_texts(self):
        for works in ALL_WORKS:
            for task in names_of(works):
                for told in (ahead_of(works, task), behind_of(works, task)):
                    self.assertIs(type(told), tuple)
                    self.assertTrue(all(type(name) is str for name in told))

    def test_somewhat_beyond_the_bounds_is_not_refused(self):
        names = tuple("abcdefghij")
        works = plain_works(" ".join(names), tuple(zip(names, names[1:])))
        self.sides(works, "e", names[:4], names[5:])


class Asked(unittest.TestCase):
    def test_by_the_names_of_the_arguments(self):
        works = plain_works("a b", (("a", "b"),))
        self.assertEqual(groups_of(works=works), (("a",), ("b",)))
        self.assertEqual(ahead_of(works=works, task="b"), ("a",))
        self.assertEqual(behind_of(works=works, task="a"), ("b",))

    def test_again_told_alike_and_nothing_changed(self):
        for works in ALL_WORKS:
            with self.subTest(works=works):
                before = repr(works)
                task = works[0][-1][0]
                first = (groups_of(works), ahead_of(works, task), behind_of(works, task))
                groups_of(full_works())
                self.assertEqual((groups_of(works), ahead_of(works, task), behind_of(works, task)), first)
                self.assertEqual(repr(works), before)


if __name__ == "__main__":
    unittest.main()
