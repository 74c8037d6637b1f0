"""Dealings: their first fault [12] and their loads [13]."""

import unittest
from itertools import chain

from samples import (
    EIGHT, LONGEST, MIDDLE, SMALLEST, beyond_works, forward_orders, keeps_rules, long_works, names_of, plain_loads,
    plain_works, small_works, ways_to_deal,
)
from stationrow.dealings import fault_of, loads_of

# Four tasks and three stands, with one order, one pair of each word and one task for a told kind.
FOUR = (
    (("a", 3, ()), ("b", 4, ()), ("c", 5, ("y",)), ("d", 6, ())),
    (("a", "b"),),
    (("with", "c", "d"), ("apart", "a", "d")),
    ("x", "y", "x"),
)


def all_faults(works, beat, dealing):
    """All faults of a dealing, in the order in which the document names them, each kind by its own order."""
    tasks, orders, pairs, row = works
    names = names_of(works)
    texts = list(chain(*dealing))
    if len(dealing) > len(row):
        return [("stands", len(dealing))]
    faults = [("strange", text) for text in texts if text not in names]
    faults += [("twice", text) for k, text in enumerate(texts) if text in texts[:k]]
    faults += [("lost", name) for name in names if name not in texts]
    if faults:
        return faults
    at = {name: [name in some for some in dealing].index(True) for name in names}
    faults += [("order", one, other) for one, other in orders if at[one] > at[other]]
    for word, one, other in pairs:
        if word == "with" and at[one] != at[other] or word == "apart" and at[one] == at[other]:
            faults.append((word, one, other))
    kinds = {name: told or row for name, length, told in tasks}
    faults += [("kind", t, k) for k, some in enumerate(dealing) for t in some if row[k] not in kinds[t]]
    faults += [("beat", k) for k, load in enumerate(plain_loads(works, dealing)) if load > beat]
    return faults


class Faults(unittest.TestCase):
    def fault(self, fault, works, beat, dealing):
        with self.subTest(works=works, beat=beat, dealing=dealing):
            told = fault_of(works, beat, dealing)
            self.assertEqual(told, fault)
            if fault is not None:
                self.assertIs(type(told), tuple)
                self.assertEqual([type(part) for part in told], [type(part) for part in fault])

    def test_none(self):
        self.fault(None, SMALLEST, 1, (("a",),))
        self.fault(None, MIDDLE, 305, (("saw", "drill"), (), ("paint",)))
        self.fault(None, MIDDLE, 305, (("saw", "drill"), ("paint",)))
        self.fault(None, FOUR, 11, (("a", "b"), ("c", "d"), ()))
        self.fault(None, FOUR, 11, (("a",), ("c", "d"), ("b",)))

    def test_fewer_stands_than_the_row_has(self):
        self.fault(None, FOUR, 11, (("a", "b"), ("c", "d")))
        self.fault(None, plain_works("a b", row=("x", "y", "z")), 2, (("a", "b"),))

    def test_no_stands(self):
        self.fault(("lost", "a"), SMALLEST, 9, ())
        self.fault(("lost", "b"), plain_works("b a"), 9, ())
        self.fault(("lost", "a"), FOUR, 0, ())

    def test_stands_without_tasks(self):
        works = plain_works("a b", row=("x",) * 4)
        for dealing in (((), (), ("a",), ("b",)), (("a",), (), (), ("b",)), (("a", "b"), (), (), ()), ((), ("a", "b"))):
            self.fault(None, works, 2, dealing)
        self.fault(("lost", "a"), works, 2, ((), (), (), ()))
        self.fault(("lost", "a"), works, 2, ((), ("b",), ()))

    def test_tasks_in_any_order(self):
        self.fault(None, FOUR, 11, (("b", "a"), ("d", "c"), ()))
        works = plain_works("a b c", (("a", "b"), ("b", "c")))
        for tasks in (("a", "b", "c"), ("c", "b", "a"), ("b", "c", "a"), ("c", "a", "b")):
            self.fault(None, works, 3, (tasks,))
            self.fault(("beat", 0), works, 2, (tasks,))

    def test_stands_more_than_the_row_has(self):
        self.fault(("stands", 2), SMALLEST, 1, (("a",), ()))
        self.fault(("stands", 2), SMALLEST, 1, ((), ("a",)))
        self.fault(("stands", 4), FOUR, 11, (("a", "b"), ("c", "d"), (), ()))
        self.fault(("stands", 9), plain_works("a", row=("x",) * 8), 1, (("a",),) + ((),) * 8)
        self.fault(None, plain_works("a", row=("x",) * 8), 1, (("a",),) + ((),) * 7)

    def test_stands_more_than_the_row_has_ahead_of_all(self):
        self.fault(("stands", 4), FOUR, 0, (("e", "d"), ("b", "b"), ("", "a"), ("a",)))
        self.fault(("stands", 5), FOUR, 0, ((),) * 5)
        self.fault(("stands", 2), SMALLEST, 0, (("b",), ("a", "a")))

    def test_strange(self):
        self.fault(("strange", "e"), FOUR, 11, (("a", "b"), ("c", "d", "e"), ()))
        self.fault(None, FOUR, 11, (("a", "b"), ("c", "d"), ()))
        self.fault(("strange", "x"), FOUR, 11, (("x", "a", "b"), ("c", "d"), ()))

    def test_strange_texts_of_any_signs(self):
        texts = ("", " ", "A", "a ", " a", "aa", "a\n", "a\nb", "a b", "~", "1", "with", "strange", "a" * 9, "a" * 4000)
        for text in texts:
            self.fault(("strange", text), FOUR, 11, (("a", "b"), ("c", "d"), (text,)))
            self.fault(("strange", text), FOUR, 11, ((text, "a", "b"), ("c", "d"), ()))

    def test_the_first_strange_one_stand_by_stand(self):
        self.fault(("strange", "zz"), FOUR, 11, (("a", "b"), ("c", "zz", "d"), ("e", "zz")))
        self.fault(("strange", "f"), FOUR, 11, (("a", "f", "b", "e"), ("c", "d"), ("e",)))
        self.fault(("strange", ""), FOUR, 11, ((), ("", "e"), ("e",)))

    def test_twice(self):
        self.fault(("twice", "a"), FOUR, 14, (("a", "b"), ("c", "d"), ("a",)))
        self.fault(("twice", "a"), FOUR, 14, (("a", "b", "a"), ("c", "d"), ()))
        self.fault(("twice", "d"), FOUR, 14, (("a", "b"), ("d", "c", "d"), ()))
        self.fault(None, FOUR, 14, (("a", "b"), ("c", "d"), ()))

    def test_the_first_twice_stand_by_stand(self):
        self.fault(("twice", "d"), FOUR, 14, (("a", "b"), ("d", "c", "d"), ("a", "b")))
        self.fault(("twice", "b"), FOUR, 14, (("a", "b"), ("c", "d"), ("b", "a")))
        self.fault(("twice", "a"), FOUR, 14, (("a", "b"), ("c", "d", "a"), ("b",)))

    def test_lost(self):
        self.fault(("lost", "b"), FOUR, 11, (("a",), ("c", "d"), ()))
        self.fault(("lost", "d"), plain_works("a b c d"), 4, (("a", "b", "c"),))
        self.fault(None, plain_works("a b c d"), 4, (("a", "b", "c", "d"),))

    def test_the_first_lost_by_the_tasks(self):
        self.fault(("lost", "c"), plain_works("d c b a"), 4, (("d",),))
        self.fault(("lost", "b"), plain_works("b a"), 4, ((),))
        self.fault(("lost", "a"), FOUR, 11, (("b",),))

    def test_order(self):
        works = plain_works("a b", (("a", "b"),), row=("x", "x"))
        self.fault(("order", "a", "b"), works, 2, (("b",), ("a",)))
        self.fault(None, works, 2, (("a",), ("b",)))
        self.fault(None, works, 2, (("b", "a"),))
        self.fault(None, works, 2, ((), ("b", "a")))
        self.fault(("order", "a", "b"), FOUR, 11, (("b",), ("c", "d"), ("a",)))

    def test_the_first_order_by_the_works(self):
        works = plain_works("a b c", (("b", "c"), ("a", "c"), ("a", "b")), row=("x", "x", "x"))
        self.fault(("order", "b", "c"), works, 3, (("c",), ("b",), ("a",)))
        self.fault(("order", "a", "b"), works, 3, (("b",), ("a",), ("c",)))
        self.fault(("order", "a", "c"), works, 3, (("b", "c"), ("a",), ()))

    def test_with(self):
        for pair in (("with", "a", "b"), ("with", "b", "a")):
            works = plain_works("a b", (), (pair,), ("x", "x"))
            self.fault(pair, works, 2, (("a",), ("b",)))
            self.fault(pair, works, 2, (("b",), ("a",)))
            self.fault(None, works, 2, (("a", "b"), ()))
            self.fault(None, works, 2, ((), ("b", "a")))

    def test_apart(self):
        for pair in (("apart", "a", "b"), ("apart", "b", "a")):
            works = plain_works("a b", (), (pair,), ("x", "x"))
            self.fault(None, works, 2, (("a",), ("b",)))
            self.fault(None, works, 2, (("b",), ("a",)))
            self.fault(pair, works, 2, (("a", "b"), ()))
            self.fault(pair, works, 2, ((), ("b", "a")))

    def test_the_first_pair_of_both_words_by_the_works(self):
        pairs = (("apart", "a", "b"), ("with", "c", "d"), ("apart", "d", "a"), ("with", "c", "b"))
        works = plain_works("a b c d", (), pairs[:3], ("x", "x", "x"))
        self.fault(("apart", "a", "b"), works, 4, (("a", "b", "c"), ("d",)))
        self.fault(("with", "c", "d"), works, 4, (("a", "d"), ("b", "c")))
        self.fault(("apart", "d", "a"), works, 4, (("a", "c", "d"), ("b",)))
        self.fault(None, works, 4, (("a",), ("b", "c", "d")))
        turned = (works[0], (), pairs[2::-1], works[3])
        self.fault(("with", "c", "d"), turned, 4, (("a", "b", "c"), ("d",)))
        self.fault(("apart", "d", "a"), turned, 4, (("a", "d"), ("b", "c")))
        more = plain_works("a b c d", (), pairs, ("x", "x", "x"))
        self.fault(("with", "c", "b"), more, 4, (("a",), ("b",), ("c", "d")))

    def test_kind(self):
        works = ((("a", 1, ("x",)), ("b", 1, ("x", "y")), ("c", 1, ())), (), (), ("x", "y", "z"))
        self.fault(None, works, 3, (("a",), ("b",), ("c",)))
        self.fault(None, works, 3, (("a", "b", "c"), (), ()))
        self.fault(("kind", "a", 1), works, 3, (("b", "c"), ("a",), ()))
        self.fault(("kind", "a", 2), works, 3, (("b", "c"), (), ("a",)))
        self.fault(("kind", "b", 2), works, 3, (("a",), (), ("c", "b")))
        self.fault(("kind", "a", 0), ((("a", 1, ("y",)),), (), (), ("x", "y")), 1, (("a",),))

    def test_the_first_kind_stand_by_stand_and_there_as_they_stand(self):
        works = ((("a", 1, ("x",)), ("b", 1, ("x",)), ("c", 1, ())), (), (), ("x", "y", "z"))
        self.fault(("kind", "b", 1), works, 3, ((), ("b",), ("a", "c")))
        self.fault(("kind", "a", 1), works, 3, ((), ("c", "a", "b"), ()))
        self.fault(("kind", "b", 1), works, 3, ((), ("c", "b", "a"), ()))

    def test_beat(self):
        works = ((("a", 3, ()), ("b", 4, ()), ("c", 9, ())), (), (), ("x", "x", "x"))
        self.fault(None, works, 9, (("a", "b"), ("c",)))
        self.fault(("beat", 1), works, 8, (("a", "b"), ("c",)))
        self.fault(("beat", 0), works, 8, (("c",), ("a", "b")))
        self.fault(None, works, 12, (("b",), (), ("c", "a")))
        self.fault(("beat", 2), works, 11, (("b",), (), ("c", "a")))

    def test_the_first_stand_above_the_beat(self):
        works = ((("a", 3, ()), ("b", 4, ()), ("c", 9, ())), (), (), ("x", "x", "x"))
        self.fault(("beat", 0), works, 2, (("a",), ("b",), ("c",)))
        self.fault(("beat", 1), works, 3, (("a",), ("b",), ("c",)))
        self.fault(("beat", 2), works, 4, (("a",), ("b",), ("c",)))
        self.fault(("beat", 1), works, 0, ((), ("c", "b", "a"), ()))

    def test_a_beat_of_nought(self):
        self.fault(("beat", 0), SMALLEST, 0, (("a",),))
        self.fault(("beat", 1), plain_works("a", row=("x", "x")), 0, ((), ("a",)))

    def test_lengths_of_sixty_figures(self):
        works = long_works()
        load = 8 * LONGEST - 28
        self.fault(None, works, load, (EIGHT, ()))
        self.fault(("beat", 0), works, load - 1, (EIGHT, ()))
        self.fault(None, works, 10 ** 61 - 1, (EIGHT, ()))
        self.fault(None, works, 4 * LONGEST - 6, (EIGHT[:4], EIGHT[4:]))
        self.fault(None, works, 4 * LONGEST - 6, (EIGHT[4:], EIGHT[:4]))
        self.fault(("beat", 1), works, 4 * LONGEST - 7, (EIGHT[4:], EIGHT[:4]))

    def test_of_two_faults_the_one_named_first(self):
        works = (
            (("a", 1, ()), ("b", 1, ()), ("c", 1, ("y",)), ("d", 9, ())),
            (("a", "b"),),
            (("apart", "c", "d"), ("with", "a", "b")),
            ("x", "y", "x"),
        )
        self.fault(("strange", "e"), works, 9, (("a", "a"), ("b", "c"), ("d", "e")))
        self.fault(("strange", "e"), works, 9, (("a",), ("b", "e"), ("d",)))
        self.fault(("twice", "d"), works, 9, (("d",), ("a", "b"), ("d",)))
        self.fault(("lost", "d"), works, 9, (("b",), ("a",), ("c",)))
        self.fault(("order", "a", "b"), works, 9, (("b",), ("c",), ("a", "d")))
        self.fault(("apart", "c", "d"), works, 9, (("a", "b"), (), ("d", "c")))
        self.fault(("with", "a", "b"), works, 9, (("a", "c"), ("b",), ("d",)))
        self.fault(("kind", "c", 0), works, 8, (("a", "b", "c"), (), ("d",)))
        self.fault(("beat", 2), works, 8, (("a", "b"), ("c",), ("d",)))
        self.fault(None, works, 9, (("a", "b"), ("c",), ("d",)))

    def test_strange_and_lost_ahead_of_what_stands_where(self):
        works = plain_works("a b c", (("a", "b"),), (("with", "a", "c"),), ("x", "x"))
        self.fault(("lost", "a"), works, 0, (("b",), ("c",)))
        self.fault(("lost", "b"), works, 0, (("c",), ("a",)))
        self.fault(("lost", "c"), works, 0, (("b",), ("a",)))
        self.fault(("strange", "e"), works, 0, (("b", "b"), ("e",)))
        self.fault(("twice", "b"), works, 0, (("b", "b"), ()))

    def test_all_ways_of_small_works(self):
        met = {}
        for works in small_works(20, 60):
            many = len(works[3])
            for dealing in list(ways_to_deal(works, many))[::7]:
                for beat in (4, 12, 30):
                    faults = all_faults(works, beat, dealing)
                    met[faults[0][0] if faults else None] = True
                    self.fault((faults + [None])[0], works, beat, dealing)
                    turned = tuple(tasks[::-1] for tasks in dealing)
                    self.fault((all_faults(works, beat, turned) + [None])[0], works, beat, turned)
        self.assertEqual(set(met), {None, "order", "with", "apart", "kind", "beat"})

    def test_some_tasks_changed_or_left_out(self):
        met = {}
        for works in small_works(21, 60):
            for dealing in list(ways_to_deal(works, len(works[3])))[::9]:
                first = names_of(works)[0]
                changed = (
                    dealing[1:],
                    dealing + (("a",),),
                    tuple(tuple("e" if name == first else name for name in tasks) for tasks in dealing),
                    tuple(tuple(first for name in tasks) for tasks in dealing),
                    tuple((first,) + tasks for tasks in dealing),
                )
                for other in changed:
                    faults = all_faults(works, 30, other)
                    met[faults[0][0] if faults else None] = True
                    self.fault((faults + [None])[0], works, 30, other)
        self.assertLessEqual({"stands", "strange", "twice", "lost"}, set(met))

    def test_without_a_fault_just_where_all_is_kept(self):
        for works in small_works(22, 40):
            for dealing in ways_to_deal(works, len(works[3])):
                kept = keeps_rules(works, dealing) and max(plain_loads(works, dealing)) <= 11
                self.assertEqual(fault_of(works, 11, dealing) is None, kept)

    def test_eight_tasks_and_eight_stands(self):
        works = plain_works(" ".join(EIGHT), forward_orders(), (), ("x",) * 8)
        each = tuple((name,) for name in EIGHT)
        self.fault(None, works, 1, each)
        self.fault(("order", "a", "bb"), works, 1, each[::-1])
        self.fault(("order", "ggggggg", "hhhhhhhh"), works, 1, each[:6] + (each[7], each[6]))

    def test_somewhat_beyond_the_bounds_is_not_refused(self):
        works = beyond_works()
        names = names_of(works)
        self.fault(None, works, 10 ** 61, tuple((name,) for name in names))
        self.fault(("beat", 0), works, 10 ** 61 - 1, tuple((name,) for name in names))
        self.fault(("beat", 0), works, 9 * 10 ** 61 - 1, (names,))

    def test_asked_again_told_alike_and_nothing_changed(self):
        dealing = (("b", "a"), ("c",), ("d",))
        before = repr((FOUR, dealing))
        first = fault_of(FOUR, 11, dealing)
        self.assertEqual(loads_of(FOUR, dealing), (7, 5, 6))
        fault_of(MIDDLE, 0, ())
        self.assertEqual(fault_of(FOUR, 11, dealing), first)
        self.assertEqual(loads_of(FOUR, dealing), (7, 5, 6))
        self.assertEqual(repr((FOUR, dealing)), before)

    def test_by_the_names_of_the_arguments(self):
        self.assertIsNone(fault_of(works=SMALLEST, beat=1, dealing=(("a",),)))
        self.assertEqual(loads_of(works=SMALLEST, dealing=(("a",),)), (1,))


class Loads(unittest.TestCase):
    def loads(self, loads, works, dealing):
        with self.subTest(works=works, dealing=dealing):
            told = loads_of(works, dealing)
            self.assertEqual(told, loads)
            self.assertIs(type(told), tuple)
            self.assertTrue(all(type(load) is int for load in told))

    def test_each_stands_lengths_together(self):
        self.loads((1,), SMALLEST, (("a",),))
        self.loads((19, 0, 305), MIDDLE, (("saw", "drill"), (), ("paint",)))
        self.loads((7, 11), FOUR, (("a", "b"), ("c", "d")))
        self.loads((7, 11), FOUR, (("b", "a"), ("d", "c")))

    def test_stands_without_tasks(self):
        works = ((("a", 3, ()), ("b", 4, ())), (), (), ("x",) * 4)
        self.loads((0, 0, 0, 7), works, ((), (), (), ("a", "b")))
        self.loads((3, 0, 0, 4), works, (("a",), (), (), ("b",)))
        self.loads((0, 7), works, ((), ("b", "a")))

    def test_dealings_that_break_orders_pairs_kinds_and_any_beat(self):
        works = (
            (("a", 3, ("x",)), ("b", 4, ("x",)), ("c", 5, ("y",))),
            (("a", "b"),),
            (("with", "a", "b"), ("apart", "b", "c")),
            ("x", "y", "x"),
        )
        self.loads((4, 0, 8), works, (("b",), (), ("a", "c")))
        self.loads((5, 4, 3), works, (("c",), ("b",), ("a",)))
        self.loads((0, 12, 0), works, ((), ("c", "b", "a"), ()))

    def test_lengths_of_sixty_figures(self):
        works = long_works()
        self.loads((8 * LONGEST - 28,), works, (EIGHT,))
        self.loads((3 * LONGEST - 3, 0, 5 * LONGEST - 25), works, (EIGHT[:3], (), EIGHT[3:]))

    def test_all_ways_of_small_works(self):
        for works in small_works(23, 40):
            for dealing in list(ways_to_deal(works, len(works[3])))[::5]:
                self.loads(plain_loads(works, dealing), works, dealing)
                self.loads(plain_loads(works, dealing), works, tuple(tasks[::-1] for tasks in dealing))


if __name__ == "__main__":
    unittest.main()
