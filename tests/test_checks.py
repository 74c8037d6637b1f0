"""The check and its refusals [9]."""

import unittest

from samples import (
    EIGHT, SMALLEST, chain_table, forward_orders, full_works, many_works, names_of, plain_works, scattered_works,
)
from stationrow.checks import check_works
from stationrow.errors import NoStand, Ring, RowError, Torn

ALL_WORKS = many_works() + scattered_works(9) + scattered_works(99)


def kinds_works(kinds, pairs=(), row="x", orders=()):
    """A works whose tasks a, b, c and so on have these kinds, each one text, as the row is, words between blanks."""
    tasks = tuple((name, 1, tuple(told.split())) for name, told in zip("abcdefgh", kinds))
    return (tasks, orders, pairs, tuple(row.split()))


def refusal_of(works):
    """What the check refuses a works with, None where it stands it."""
    try:
        told = check_works(works)
    except RowError as refusal:
        return refusal
    if told is not None:
        raise AssertionError(f"{told!r} is told in the place of None")
    return None


def has_ring(works):
    chains = chain_table((works[0], works[1], (), works[3]))
    return any((other, one) in chains for one, other in chains)


def plain_groups(works):
    chains = chain_table(works)
    names = names_of(works)
    groups = []
    for one in names:
        group = tuple(o for o in names if o == one or ((one, o) in chains and (o, one) in chains))
        if group not in groups:
            groups.append(group)
    return groups


def torn_pairs(works):
    groups = plain_groups(works)
    apart = [pair[1:] for pair in works[2] if pair[0] == "apart"]
    return [ends for ends in apart if any(ends[0] in group and ends[1] in group for group in groups)]


def groups_without_stand(works):
    kinds = {name: told for name, length, told in works[0]}
    return [
        group for group in plain_groups(works)
        if not any(all(kinds[name] == () or kind in kinds[name] for name in group) for kind in works[3])
    ]


class Checked(unittest.TestCase):
    def stands(self, works):
        with self.subTest(works=works):
            self.assertIsNone(refusal_of(works))

    def ring(self, works, tasks):
        """Held to be refused with a ring of just these tasks, told from any of them on."""
        with self.subTest(works=works):
            refusal = refusal_of(works)
            self.assertIs(type(refusal), Ring)
            self.right_ring(works, refusal.ring)
            self.assertEqual(set(refusal.ring), set(tasks))

    def right_ring(self, works, ring):
        self.assertIs(type(ring), tuple)
        self.assertGreater(len(ring), 1)
        self.assertEqual(len(set(ring)), len(ring))
        for order in zip(ring, ring[1:] + ring[:1]):
            self.assertIn(order, works[1])

    def torn(self, works, one, other):
        with self.subTest(works=works):
            refusal = refusal_of(works)
            self.assertIs(type(refusal), Torn)
            self.assertEqual((refusal.one, refusal.other), (one, other))

    def no_stand(self, works, tasks):
        with self.subTest(works=works):
            refusal = refusal_of(works)
            self.assertIs(type(refusal), NoStand)
            self.assertIs(type(refusal.tasks), tuple)
            self.assertEqual(refusal.tasks, tasks)


class Stands(Checked):
    def test_ordinary_works(self):
        self.stands(SMALLEST)
        self.stands(plain_works(" ".join(EIGHT)))
        self.stands(plain_works(" ".join(EIGHT), forward_orders()))
        self.stands(plain_works("a b c", (("a", "b"), ("b", "c")), (("with", "a", "b"), ("apart", "a", "c"))))

    def test_orders_that_part_and_meet_again(self):
        self.stands(plain_works("a b c d", (("a", "b"), ("a", "c"), ("b", "d"), ("c", "d"), ("a", "d"))))

    def test_apart_pairs_across_groups(self):
        self.stands(plain_works("a b c", (), (("apart", "a", "b"), ("apart", "c", "b"), ("with", "a", "c"))))
        self.stands(plain_works("a b c", (("a", "b"), ("b", "c")), (("apart", "c", "a"), ("apart", "a", "b"))))

    def test_kinds_of_which_the_row_has_one(self):
        self.stands(kinds_works(("x", "y x", "", "z w y x"), row="x"))
        self.stands(kinds_works(("x", "y", "z"), row="z y x"))
        self.stands(kinds_works(("x y", "y z", ""), (("with", "a", "b"), ("with", "b", "c")), "x z y"))


class Rings(Checked):
    def test_there_and_back(self):
        self.ring(plain_works("a b", (("a", "b"), ("b", "a"))), "ab")
        self.ring(plain_works("a b", (("b", "a"), ("a", "b"))), "ab")
        self.ring(plain_works("a b c", (("a", "b"), ("c", "b"), ("b", "c"))), "bc")

    def test_longer_ones(self):
        self.ring(plain_works("a b c", (("c", "a"), ("b", "c"), ("a", "b"))), "abc")
        self.ring(plain_works("a b c", (("a", "c"), ("c", "b"), ("b", "a"))), "abc")
        orders = tuple(zip(EIGHT, EIGHT[1:] + EIGHT[:1]))
        self.ring(plain_works(" ".join(EIGHT), orders), EIGHT)
        self.ring(plain_works(" ".join(EIGHT), orders[3:] + orders[:3]), EIGHT)

    def test_ways_to_it_and_off_it(self):
        orders = (("a", "b"), ("b", "c"), ("c", "f"), ("c", "d"), ("d", "b"), ("d", "e"), ("f", "g"))
        for told in (orders, orders[::-1], orders[3:] + orders[:3]):
            self.ring(plain_works("a b c d e f g", told), "bcd")
            self.ring(plain_works("g f e d c b a", told), "bcd")

    def test_one_of_several(self):
        orders = (("a", "b"), ("b", "a"), ("b", "c"), ("c", "d"), ("d", "c"), ("d", "e"))
        for told in (orders, orders[::-1]):
            works = plain_works("a b c d e", told)
            refusal = refusal_of(works)
            self.assertIs(type(refusal), Ring)
            self.right_ring(works, refusal.ring)

    def test_rings_that_share_tasks(self):
        orders = (("a", "b"), ("b", "c"), ("c", "a"), ("b", "a"), ("c", "b"), ("a", "c"), ("c", "d"), ("d", "a"))
        for k in range(len(orders)):
            for told in (orders[k:] + orders[:k], (orders[k:] + orders[:k])[::-1]):
                with self.subTest(told=told):
                    refusal = refusal_of(plain_works("a b c d", told))
                    self.assertIs(type(refusal), Ring)
                    self.right_ring(plain_works("a b c d", told), refusal.ring)

    def test_one_order_back_among_all_forward_ones(self):
        for one, other in forward_orders():
            kept = tuple(order for order in forward_orders() if order != ("a", "hhhhhhhh"))
            works = plain_works(" ".join(EIGHT), kept + ((other, one),))
            if (one, other) != ("a", "hhhhhhhh"):
                with self.subTest(one=one, other=other):
                    refusal = refusal_of(works)
                    self.assertIs(type(refusal), Ring)
                    self.right_ring(works, refusal.ring)
                    self.assertIn(other, refusal.ring)
                    self.assertIn(one, refusal.ring)

    def test_with_pairs_are_no_part_of_a_ring(self):
        self.stands(plain_works("a b", (("a", "b"),), (("with", "a", "b"),)))
        self.stands(plain_works("a b", (("a", "b"),), (("with", "b", "a"),)))
        self.stands(plain_works("a b c", (("a", "b"), ("c", "a")), (("with", "b", "c"),)))
        self.stands(plain_works("a b c", (), (("with", "a", "b"), ("with", "b", "c"), ("with", "c", "a"))))

    def test_ahead_of_torn(self):
        orders = (("a", "b"), ("b", "a"))
        self.ring(plain_works("a b", orders, (("apart", "a", "b"),)), "ab")
        self.ring(plain_works("c d a b", orders, (("with", "c", "d"), ("apart", "c", "d"))), "ab")

    def test_ahead_of_no_stand(self):
        orders = (("b", "c"), ("c", "b"))
        self.ring(kinds_works(("y", "", ""), (), "x", orders), "bc")
        self.ring(kinds_works(("", "x", "y"), (), "x y", orders), "bc")
        self.ring(kinds_works(("y", "x", "y"), (("apart", "b", "c"),), "x", orders), "bc")


class TornPairs(Checked):
    def test_where_a_with_pair_has_both(self):
        self.torn(plain_works("a b", (), (("with", "a", "b"), ("apart", "a", "b"))), "a", "b")
        self.torn(plain_works("a b", (), (("apart", "a", "b"), ("with", "a", "b"))), "a", "b")

    def test_the_names_as_they_stand_in_it(self):
        self.torn(plain_works("a b", (), (("with", "a", "b"), ("apart", "b", "a"))), "b", "a")
        self.torn(plain_works("a b", (), (("with", "b", "a"), ("apart", "a", "b"))), "a", "b")

    def test_where_a_chain_leads_there_and_back(self):
        pairs = (("with", "b", "c"), ("apart", "c", "a"))
        self.torn(plain_works("a b c", (("a", "b"), ("c", "a")), pairs), "c", "a")
        self.stands(plain_works("a b c", (("a", "b"),), pairs))
        pairs = (("with", "a", "b"), ("with", "b", "c"), ("with", "c", "d"), ("apart", "d", "a"))
        self.torn(plain_works("a b c d", (), pairs), "d", "a")

    def test_the_first_of_several(self):
        pairs = (
            ("apart", "d", "a"), ("with", "a", "b"), ("with", "c", "d"), ("apart", "d", "c"), ("apart", "a", "b"),
            ("apart", "c", "d"),
        )
        self.torn(plain_works("a b c d", (), pairs), "d", "c")
        self.torn(plain_works("a b c d", (), pairs[::-1]), "c", "d")
        self.torn(plain_works("a b c d", (), pairs[:3] + pairs[4:]), "a", "b")

    def test_ahead_of_no_stand(self):
        pairs = (("with", "b", "c"), ("apart", "c", "b"))
        self.torn(kinds_works(("y", "", ""), pairs), "c", "b")
        self.torn(kinds_works(("", "x", "y"), pairs, "x y"), "c", "b")


class NoStands(Checked):
    def test_a_task_alone(self):
        self.no_stand(kinds_works(("y",)), ("a",))
        self.no_stand(kinds_works(("w y z", "x"), row="x x"), ("a",))
        self.no_stand(kinds_works(("x", "", "w z"), row="x y v"), ("c",))
        self.no_stand(kinds_works(("xx",), row="x"), ("a",))
        self.no_stand(kinds_works(("x",), row="xx"), ("a",))

    def test_several_tasks_of_which_each_alone_has_a_stand(self):
        pairs = (("with", "c", "a"),)
        self.no_stand(kinds_works(("x", "", "y"), pairs, "x y"), ("a", "c"))
        self.stands(kinds_works(("x", "", "y"), (), "x y"))
        self.stands(kinds_works(("x", "", "y x"), pairs, "x y"))
        self.no_stand(kinds_works(("x z", "", "y z"), pairs, "x y"), ("a", "c"))
        self.stands(kinds_works(("x z", "", "y z"), pairs, "x y z"))

    def test_any_two_may_share_a_kind_and_all_none(self):
        pairs = (("with", "a", "b"), ("with", "b", "c"))
        self.no_stand(kinds_works(("x y", "y z", "z x"), pairs, "x y z"), ("a", "b", "c"))

    def test_a_chain_there_and_back(self):
        kinds = ("x", "x y", "x y", "y")
        orders = (("a", "b"), ("c", "a"), ("a", "d"))
        self.stands(kinds_works(kinds, (("with", "b", "c"),), "x y", orders))
        self.no_stand(kinds_works(kinds, (("with", "b", "c"),), "x y", orders + (("d", "b"),)), ("a", "b", "c", "d"))

    def test_the_first_group_of_several(self):
        self.no_stand(kinds_works(("x", "y", "z"), row="x"), ("b",))
        self.no_stand(kinds_works(("", "x", "z", "y"), (("with", "d", "b"),), "x y"), ("b", "d"))
        self.no_stand(kinds_works(("", "z", "x", "y"), (("with", "d", "c"),), "x y"), ("b",))

    def test_tasks_without_kinds_may_be_done_at_all(self):
        for row in ("x", "y", "x y z"):
            self.stands(kinds_works(("", ""), (), row))
        self.stands(kinds_works(("", "y"), (("with", "a", "b"),), "x y"))
        self.no_stand(kinds_works(("", "y"), (("with", "a", "b"),), "x z"), ("a", "b"))


class ManyWorks(Checked):
    def test_just_what_is_due(self):
        met = set()
        for works in ALL_WORKS:
            with self.subTest(works=works):
                refusal = refusal_of(works)
                met.add(type(refusal))
                if has_ring(works):
                    self.assertIs(type(refusal), Ring)
                    self.right_ring(works, refusal.ring)
                elif torn_pairs(works):
                    self.torn(works, *torn_pairs(works)[0])
                elif groups_without_stand(works):
                    self.no_stand(works, groups_without_stand(works)[0])
                else:
                    self.assertIsNone(refusal)
        self.assertEqual(met, {Ring, Torn, NoStand, type(None)})

    def test_again_told_alike_and_nothing_changed(self):
        for works in ALL_WORKS:
            with self.subTest(works=works):
                before = repr(works)
                first = refusal_of(works)
                refusal_of(full_works())
                again = refusal_of(works)
                self.assertIs(type(again), type(first))
                if first is not None:
                    self.assertEqual(vars(again), vars(first))
                self.assertEqual(repr(works), before)

    def test_by_the_name_of_the_argument(self):
        self.assertIsNone(check_works(works=SMALLEST))

    def test_somewhat_beyond_the_bounds_is_not_refused(self):
        names = tuple("abcdefghij")
        orders = tuple((names[i], names[k]) for i in range(10) for k in range(i + 1, 10))
        tasks = tuple((name, 10 ** 61, ("v", "w", "x", "y", "z")) for name in names)
        self.stands((tasks, orders, (), ("u",) * 9 + ("z",)))
        self.no_stand((tasks, orders, (), ("u",) * 10), ("a",))


if __name__ == "__main__":
    unittest.main()
