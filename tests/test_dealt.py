"""A dealing to just so many stands [14], and to the fewest [15]."""

import unittest

from samples import (
    EIGHT, LONGEST, MIDDLE, SMALLEST, asked_small, beyond_works, forward_orders, has_dealing, keeps_rules, long_works,
    names_of, other_names, plain_loads, plain_works, sized_works, small_works, telling_beats, told_otherwise,
    unlike_works,
)
from stationrow.chains import groups_of
from stationrow.dealings import fault_of
from stationrow.dealt import dealing_to, fewest_stands
from stationrow.errors import NoRoom, RowError, TooLong
from stationrow.works import turned_about


def stands_told(works, beat):
    """The fewest stands that are told, or the class of the refusal."""
    try:
        return fewest_stands(works, beat)[0]
    except RowError as refusal:
        return type(refusal)


class Sound(unittest.TestCase):
    """What holds of every dealing that is told."""

    def sound(self, works, beat, many, dealing):
        self.assertIs(type(dealing), tuple)
        self.assertEqual(len(dealing), many)
        places = {name: k for k, name in enumerate(names_of(works))}
        for tasks in dealing:
            self.assertIs(type(tasks), tuple)
            self.assertEqual(list(tasks), sorted(tasks, key=places.get))
        self.assertIsNone(fault_of(works, beat, dealing))
        self.assertEqual(sorted(sum(dealing, ())), sorted(places))
        self.assertTrue(keeps_rules(works, dealing))
        self.assertLessEqual(max(plain_loads(works, dealing), default=0), beat)


class ToSoMany(Sound):
    def dealt(self, there, works, beat, many):
        with self.subTest(works=works, beat=beat, many=many):
            dealing = dealing_to(works, beat, many)
            if there:
                self.sound(works, beat, many, dealing)
            else:
                self.assertIsNone(dealing)

    def test_where_there_is_just_one(self):
        self.assertEqual(dealing_to(SMALLEST, 1, 1), (("a",),))
        self.assertEqual(dealing_to(MIDDLE, 305, 2), (("saw", "drill"), ("paint",)))
        works = plain_works("c b a", (("a", "b"), ("b", "c")), (), ("x", "x", "x"))
        self.assertEqual(dealing_to(works, 1, 3), (("a",), ("b",), ("c",)))
        self.assertEqual(dealing_to(works, 3, 1), (("c", "b", "a"),))
        kinds = ((("a", 2, ("y",)), ("b", 2, ("x",)), ("c", 2, ("z",))), (), (), ("x", "y", "z"))
        self.assertEqual(dealing_to(kinds, 2, 3), (("b",), ("a",), ("c",)))

    def test_no_stands(self):
        for works in small_works(30, 20) + [SMALLEST, MIDDLE]:
            for beat in (0, 1, 10 ** 61 - 1):
                self.dealt(False, works, beat, 0)

    def test_a_beat_of_nought(self):
        for works in small_works(31, 20) + [SMALLEST, MIDDLE]:
            for many in range(len(works[3]) + 1):
                self.dealt(False, works, 0, many)

    def test_a_load_that_is_just_the_beat(self):
        works = sized_works((3, 4, 5), row=("x", "x"))
        self.dealt(True, works, 7, 2)
        self.dealt(False, works, 6, 2)
        self.dealt(True, works, 12, 1)
        self.dealt(False, works, 11, 1)

    def test_stands_without_tasks(self):
        works = ((("a", 1, ("y",)),), (), (), ("x", "x", "y", "x"))
        self.dealt(False, works, 1, 2)
        self.assertEqual(dealing_to(works, 1, 3), ((), (), ("a",)))
        self.assertEqual(dealing_to(works, 1, 4), ((), (), ("a",), ()))
        self.dealt(True, plain_works("a", row=("x",) * 8), 1, 8)

    def test_apart_pairs_and_kinds_that_no_beat_helps(self):
        pairs = (("apart", "a", "b"), ("apart", "b", "c"), ("apart", "c", "a"))
        works = plain_works("a b c", (), pairs, ("x",) * 4)
        for many, there in ((1, False), (2, False), (3, True), (4, True)):
            self.dealt(there, works, 10 ** 61 - 1, many)
        ordered = ((("a", 1, ("y",)), ("b", 1, ("x",))), (("a", "b"),), (), ("x", "y"))
        self.dealt(False, ordered, 10 ** 61 - 1, 2)
        self.dealt(True, (ordered[0], (("b", "a"),), (), ("x", "y")), 1, 2)

    def test_where_the_first_filling_leads_nowhere(self):
        # The first tasks would fill the first stand, and none would be left for c.
        works = ((("a", 2, ()), ("b", 2, ()), ("c", 3, ("x",)), ("d", 4, ())), (), (), ("x", "y", "y"))
        self.dealt(True, works, 5, 3)
        self.dealt(True, works, 4, 3)
        self.dealt(False, works, 3, 3)

    def test_held_against_all_ways(self):
        met = {True: 0, False: 0}
        for works, beat, many in asked_small(32, 250):
            there = has_dealing(works, beat, many)
            met[there] += 1
            self.dealt(there, works, beat, many)
        self.assertGreater(met[True], 500)
        self.assertGreater(met[False], 500)

    def test_asked_again_the_same(self):
        asked = asked_small(33, 40)
        first = [dealing_to(*question) for question in asked]
        again = [dealing_to(*question) for question in reversed(asked)]
        self.assertEqual(first, again[::-1])

    def test_eight_tasks_and_eight_stands(self):
        each = plain_works(" ".join(EIGHT), (), (), ("x",) * 8)
        for beat in range(9):
            for many in range(9):
                self.dealt(beat * many >= 8, each, beat, many)
        chained = plain_works(" ".join(reversed(EIGHT)), forward_orders(), (), ("x",) * 8)
        self.dealt(True, chained, 1, 8)
        self.assertEqual(dealing_to(chained, 1, 8), tuple((name,) for name in EIGHT))
        self.dealt(False, chained, 1, 7)
        self.dealt(True, chained, 2, 4)
        self.dealt(False, chained, 2, 3)

    def test_eight_unlike_tasks_and_eight_stands(self):
        works = unlike_works()
        for beat, fewest in ((44, 1), (43, 2), (22, 2), (21, 3), (15, 3), (14, 4), (11, 4), (10, 5), (9, 5)):
            for many in range(9):
                self.dealt(many >= fewest, works, beat, many)
        for many in range(9):
            self.dealt(False, works, 8, many)

    def test_eight_tasks_each_apart_from_some(self):
        pairs = tuple(("apart", EIGHT[k], EIGHT[(k + 1) % 8]) for k in range(8))
        works = plain_works(" ".join(EIGHT), (), pairs, ("x",) * 8)
        self.dealt(False, works, 8, 1)
        self.dealt(True, works, 8, 2)
        self.dealt(True, works, 4, 2)
        self.dealt(False, works, 3, 2)
        self.dealt(True, works, 1, 8)

    def test_lengths_of_sixty_figures(self):
        works = long_works()
        self.dealt(True, works, LONGEST, 8)
        self.dealt(False, works, LONGEST - 1, 8)
        self.dealt(False, works, LONGEST, 7)
        self.dealt(True, works, 4 * LONGEST - 14, 2)
        self.dealt(False, works, 4 * LONGEST - 15, 2)
        self.dealt(True, works, 10 ** 61 - 1, 1)

    def test_more_stands_than_the_row_has(self):
        self.dealt(False, SMALLEST, 1, 2)
        self.dealt(False, MIDDLE, 1000, 4)

    def test_somewhat_beyond_the_bounds_is_not_refused(self):
        works = beyond_works()
        self.dealt(True, works, 10 ** 61, 9)
        self.dealt(False, works, 10 ** 61, 8)
        self.assertEqual(fewest_stands(works, 9 * 10 ** 61), (1, (names_of(works),)))

    def test_nothing_handed_in_is_changed(self):
        for works in small_works(34, 20):
            before = repr(works)
            dealing_to(works, 9, len(works[3]))
            stands_told(works, 9)
            self.assertEqual(repr(works), before)

    def test_by_the_names_of_the_arguments(self):
        self.assertEqual(dealing_to(works=SMALLEST, beat=1, many=1), (("a",),))
        self.assertEqual(fewest_stands(works=SMALLEST, beat=1), (1, (("a",),)))


class ToTheFewest(Sound):
    def fewest(self, many, works, beat):
        with self.subTest(works=works, beat=beat):
            told = fewest_stands(works, beat)
            self.assertIs(type(told), tuple)
            self.assertEqual(len(told), 2)
            self.assertIs(type(told[0]), int)
            self.assertEqual(told[0], many)
            self.sound(works, beat, many, told[1])

    def too_long(self, tasks, length, works, beat):
        with self.subTest(works=works, beat=beat):
            with self.assertRaises(TooLong) as caught:
                fewest_stands(works, beat)
            self.assertEqual(caught.exception.tasks, tasks)
            self.assertIs(type(caught.exception.tasks), tuple)
            self.assertEqual(caught.exception.length, length)
            self.assertIs(type(caught.exception.length), int)

    def no_room(self, works, beat):
        with self.subTest(works=works, beat=beat):
            with self.assertRaises(NoRoom):
                fewest_stands(works, beat)

    def test_the_fewest(self):
        self.fewest(1, SMALLEST, 1)
        self.fewest(2, MIDDLE, 305)
        self.fewest(2, MIDDLE, 10 ** 61 - 1)
        works = sized_works((3, 4, 5))
        for beat, many in ((5, 3), (6, 3), (7, 2), (11, 2), (12, 1), (100, 1)):
            self.fewest(many, works, beat)

    def test_stands_ahead_without_tasks_count(self):
        works = ((("a", 1, ("y",)),), (), (), ("x", "x", "y", "y"))
        self.assertEqual(fewest_stands(works, 1), (3, ((), (), ("a",))))

    def test_all_of_eight(self):
        self.fewest(8, sized_works((1,) * 8), 1)
        self.fewest(1, sized_works((1,) * 8), 8)
        self.fewest(8, long_works(), LONGEST)
        self.fewest(1, long_works(), 8 * LONGEST - 28)
        self.fewest(2, long_works(), 8 * LONGEST - 29)

    def test_a_task_above_the_beat(self):
        works = sized_works((3, 4, 5))
        self.too_long(("ccc",), 5, works, 4)
        self.too_long(("bb",), 4, works, 3)
        self.too_long(("a",), 3, works, 2)
        self.too_long(("a",), 3, works, 0)
        self.too_long(("a",), 1, SMALLEST, 0)
        self.too_long(("a",), LONGEST, sized_works((LONGEST, 1)), LONGEST - 1)
        self.fewest(3, works, 5)

    def test_a_group_above_the_beat(self):
        works = sized_works((3, 4, 5, 2), (), (("with", "dddd", "bb"),))
        self.too_long(("bb", "dddd"), 6, works, 5)
        self.fewest(3, works, 6)
        chained = sized_works((3, 4, 5), (("a", "bb"), ("ccc", "a")), (("with", "ccc", "bb"),))
        self.too_long(("a", "bb", "ccc"), 12, chained, 11)
        self.fewest(1, chained, 12)

    def test_of_several_groups_above_the_beat_the_first(self):
        works = sized_works((1, 9, 5, 2, 5, 7), (), (("with", "eeeee", "ccc"), ("with", "dddd", "a")))
        self.too_long(("bb",), 9, works, 8)
        self.too_long(("bb",), 9, works, 3)
        self.too_long(("a", "dddd"), 3, works, 2)
        self.too_long(("ccc", "eeeee"), 10, works, 9)
        self.too_long(("ccc", "eeeee"), 10, (works[0][2:] + works[0][:2],) + works[1:], 2)

    def test_too_long_ahead_of_no_room(self):
        works = sized_works((2, 2, 2, 3), row=("x",))
        self.too_long(("dddd",), 3, works, 2)
        self.no_room(works, 3)
        apart = sized_works((2, 3), (), (("apart", "a", "bb"),), ("x",))
        self.too_long(("bb",), 3, apart, 2)
        self.no_room(apart, 10 ** 61 - 1)

    def test_no_room(self):
        works = sized_works((3, 4, 5), row=("x", "x"))
        self.no_room(works, 5)
        self.no_room(works, 6)
        self.fewest(2, works, 7)
        self.no_room(sized_works((1,) * 8, row=("x",) * 7), 1)
        self.fewest(8, sized_works((1,) * 8), 1)
        ordered = ((("a", 1, ("y",)), ("b", 1, ("x",))), (("a", "b"),), (), ("x", "y"))
        self.no_room(ordered, 10 ** 61 - 1)

    def test_a_refusal_is_a_row_error(self):
        for works, beat in ((SMALLEST, 0), (sized_works((1, 1), row=("x",)), 1)):
            with self.assertRaises(RowError):
                fewest_stands(works, beat)

    def test_held_against_all_ways(self):
        met = {}
        for works in small_works(35, 200):
            lengths = {name: length for name, length, kinds in works[0]}
            for beat in telling_beats(works):
                long = [group for group in groups_of(works) if sum(lengths[name] for name in group) > beat]
                there = [many for many in range(len(works[3]) + 1) if has_dealing(works, beat, many)]
                if long:
                    met["long"] = True
                    self.too_long(long[0], sum(lengths[name] for name in long[0]), works, beat)
                elif there:
                    met[there[0]] = True
                    self.fewest(there[0], works, beat)
                else:
                    met["none"] = True
                    self.no_room(works, beat)
        self.assertEqual(set(met), {"long", "none", 1, 2, 3, 4})

    def test_asked_again_the_same(self):
        works = unlike_works()
        first = [fewest_stands(works, beat) for beat in range(9, 45, 5)]
        again = [fewest_stands(works, beat) for beat in reversed(range(9, 45, 5))]
        self.assertEqual(first, again[::-1])


class Whole(unittest.TestCase):
    """What holds over several questions [3]."""

    def test_a_greater_beat_never_wants_more_stands(self):
        for works in small_works(36, 80):
            told = [stands_told(works, beat) for beat in telling_beats(works)]
            numbers = [many for many in told if type(many) is int]
            self.assertEqual(numbers, sorted(numbers, reverse=True))
            self.assertEqual(told[len(told) - len(numbers):], numbers)

    def test_other_names_and_another_order(self):
        for works in small_works(37, 80):
            for beat in telling_beats(works):
                with self.subTest(works=works, beat=beat):
                    many = stands_told(works, beat)
                    self.assertEqual(stands_told(other_names(works), beat), many)
                    self.assertEqual(stands_told(told_otherwise(works), beat), many)

    def test_turned_about_with_all_stands(self):
        for works in small_works(38, 80):
            for beat in telling_beats(works):
                with self.subTest(works=works, beat=beat):
                    there = dealing_to(works, beat, len(works[3])) is not None
                    turned = dealing_to(turned_about(works), beat, len(works[3])) is not None
                    self.assertIs(turned, there)
                    # A dealing is one of the turned works, the stands the other way about.
                    if there:
                        back = dealing_to(turned_about(works), beat, len(works[3]))[::-1]
                        self.assertIsNone(fault_of(works, beat, back))

    def test_a_dealing_to_fewer_is_one_to_more(self):
        for works in small_works(39, 60):
            for beat in telling_beats(works):
                there = [dealing_to(works, beat, many) is not None for many in range(len(works[3]) + 1)]
                self.assertEqual(there, sorted(there))


if __name__ == "__main__":
    unittest.main()
