"""The least beats [18], and what holds of them over several questions [3]."""

import unittest
from itertools import combinations

from samples import (
    EIGHT, LONGEST, MIDDLE, SMALLEST, beyond_works, forward_orders, kept_loads, long_works, other_names, plain_works,
    sized_works, small_works, told_otherwise, unlike_works,
)
from stationrow.beats import beats_of, least_beat
from stationrow.dealings import fault_of, loads_of
from stationrow.dealt import dealing_to, fewest_stands
from stationrow.papers import is_paper, paper_for
from stationrow.works import turned_about


def plain_least(works, many):
    """The least beat of all ways to deal the tasks gone through, or None."""
    return min([max(loads) for loads in kept_loads(works, many)], default=None) if many > 0 else None


def sums_of(works):
    lengths = [length for name, length, kinds in works[0]]
    return {sum(some) for size in range(len(lengths) + 1) for some in combinations(lengths, size)}


class LeastBeats(unittest.TestCase):
    def least(self, beat, works, many):
        with self.subTest(works=works, many=many):
            told = least_beat(works, many)
            self.assertEqual(told, beat)
            if beat is None:
                self.assertIsNone(told)
                return
            self.assertIs(type(told), int)
            dealing = dealing_to(works, beat, many)
            self.assertIsNone(fault_of(works, beat, dealing))
            self.assertEqual(max(loads_of(works, dealing)), beat)
            self.assertIsNone(dealing_to(works, beat - 1, many))
            self.assertIs(is_paper(works, beat - 1, many, paper_for(works, beat - 1, many)), True)

    def test_ordinary_ones(self):
        self.least(1, SMALLEST, 1)
        self.least(305, MIDDLE, 2)
        self.least(305, MIDDLE, 3)
        works = ((("a", 3, ()), ("b", 4, ()), ("c", 5, ())), (), (), ("x",) * 4)
        for many, beat in ((1, 12), (2, 7), (3, 5), (4, 5)):
            self.least(beat, works, many)

    def test_no_stands(self):
        for works in small_works(50, 20) + [SMALLEST, MIDDLE]:
            self.least(None, works, 0)

    def test_none_within_any_beat(self):
        self.least(None, MIDDLE, 1)
        apart = plain_works("a b c", (), (("apart", "a", "b"), ("apart", "b", "c"), ("apart", "c", "a")), ("x",) * 3)
        for many, beat in ((1, None), (2, None), (3, 1)):
            self.least(beat, apart, many)
        late = ((("a", 5, ("y",)),), (), (), ("x", "x", "y"))
        for many, beat in ((1, None), (2, None), (3, 5)):
            self.least(beat, late, many)
        ordered = ((("a", 1, ("y",)), ("b", 1, ("x",))), (("a", "b"),), (), ("x", "y"))
        for many in range(3):
            self.least(None, ordered, many)

    def test_by_orders_groups_and_kinds(self):
        lengths = (("a", 4), ("b", 1), ("c", 1), ("d", 4))
        free = (tuple((name, length, ()) for name, length in lengths), (), (), ("x", "x"))
        self.least(5, free, 2)
        self.least(6, (free[0], (("a", "b"), ("d", "b"), ("b", "c")), (), ("x", "x")), 2)
        self.least(8, (free[0], (), (("with", "a", "d"),), ("x", "x")), 2)
        kinds = ((("a", 4, ("x",)), ("b", 1, ("x",)), ("c", 1, ("x",)), ("d", 4, ())), (), (), ("x", "y"))
        self.least(6, kinds, 2)

    def test_held_against_all_ways(self):
        met = {True: 0, False: 0}
        for works in small_works(51, 250):
            for many in range(len(works[3]) + 1):
                beat = plain_least(works, many)
                met[beat is None] += 1
                self.least(beat, works, many)
        self.assertGreater(met[True], 250)
        self.assertGreater(met[False], 250)

    def test_the_length_of_some_tasks_together(self):
        for works in small_works(52, 60):
            self.assertLessEqual(set(beats_of(works)) - {None}, sums_of(works))

    def test_all_of_eight(self):
        each = plain_works(" ".join(EIGHT), (), (), ("x",) * 8)
        for many, beat in enumerate((8, 4, 3, 2, 2, 2, 2, 1), start=1):
            self.least(beat, each, many)
        chained = plain_works(" ".join(reversed(EIGHT)), forward_orders(), (), ("x",) * 8)
        for many, beat in enumerate((8, 4, 3, 2, 2, 2, 2, 1), start=1):
            self.least(beat, chained, many)
        for many, beat in enumerate((44, 22, 15, 11, 9, 9, 9, 9), start=1):
            self.least(beat, unlike_works(), many)

    def test_lengths_of_sixty_figures(self):
        works = long_works()
        self.least(8 * LONGEST - 28, works, 1)
        self.least(4 * LONGEST - 14, works, 2)
        self.least(2 * LONGEST - 7, works, 4)
        self.least(LONGEST, works, 8)
        # What is needed is far apart: a search by halves of the numbers themselves would be long.
        lengths = [10 ** (60 - 7 * k) - 1 for k in range(8)]
        self.least(LONGEST, sized_works(lengths), 2)
        self.least(sum(lengths), sized_works(lengths), 1)

    def test_more_stands_than_the_row_has(self):
        self.least(None, SMALLEST, 2)

    def test_asked_again_the_same(self):
        many_works = small_works(53, 30)
        first = [beats_of(works) for works in many_works]
        again = [beats_of(works) for works in reversed(many_works)]
        self.assertEqual(first, again[::-1])

    def test_nothing_handed_in_is_changed(self):
        for works in small_works(54, 20):
            before = repr(works)
            least_beat(works, len(works[3]))
            beats_of(works)
            self.assertEqual(repr(works), before)

    def test_by_the_names_of_the_arguments(self):
        self.assertEqual(least_beat(works=SMALLEST, many=1), 1)
        self.assertEqual(beats_of(works=SMALLEST), (1,))


class BeatsOfWorks(unittest.TestCase):
    def test_one_for_each_number_of_stands(self):
        self.assertEqual(beats_of(SMALLEST), (1,))
        self.assertEqual(beats_of(MIDDLE), (None, 305, 305))
        self.assertEqual(beats_of(plain_works("a b c", (), (), ("x",) * 8)), (3, 2, 1, 1, 1, 1, 1, 1))
        for works in small_works(55, 100):
            with self.subTest(works=works):
                beats = beats_of(works)
                self.assertIs(type(beats), tuple)
                stands = range(1, len(works[3]) + 1)
                self.assertEqual(beats, tuple(least_beat(works, many) for many in stands))
                self.assertEqual(beats, tuple(plain_least(works, many) for many in stands))

    def test_where_there_is_none_for_fewer(self):
        works = ((("a", 2, ("y",)), ("b", 3, ())), (), (), ("x", "x", "y", "x"))
        self.assertEqual(beats_of(works), (None, None, 3, 3))
        self.assertEqual(beats_of((works[0], (("a", "b"),), (), works[3])), (None, None, 5, 3))
        never = ((("a", 1, ("y",)), ("b", 1, ("x",))), (("a", "b"),), (), ("x", "y"))
        self.assertEqual(beats_of(never), (None, None))

    def test_never_rise_where_there_is_one_for_fewer(self):
        for works in small_works(56, 100):
            with self.subTest(works=works):
                beats = beats_of(works)
                told = [beat for beat in beats if beat is not None]
                self.assertEqual(told, sorted(told, reverse=True))
                self.assertEqual(beats[len(beats) - len(told):], tuple(told))

    def test_somewhat_beyond_the_bounds_is_not_refused(self):
        self.assertEqual(beats_of(beyond_works()), tuple(10 ** 61 * times for times in (9, 5, 3, 3, 2, 2, 2, 2, 1)))


class Whole(unittest.TestCase):
    """What holds over several questions [3]."""

    def test_other_names_and_another_order(self):
        for works in small_works(57, 100):
            with self.subTest(works=works):
                beats = beats_of(works)
                self.assertEqual(beats_of(other_names(works)), beats)
                self.assertEqual(beats_of(told_otherwise(works)), beats)

    def test_turned_about_with_all_stands(self):
        for works in small_works(58, 100):
            with self.subTest(works=works):
                self.assertEqual(least_beat(turned_about(works), len(works[3])), least_beat(works, len(works[3])))

    def test_within_the_least_beat_no_more_stands_are_wanted(self):
        for works in small_works(59, 60):
            for many, beat in enumerate(beats_of(works), start=1):
                if beat is not None:
                    with self.subTest(works=works, many=many):
                        self.assertLessEqual(fewest_stands(works, beat)[0], many)


if __name__ == "__main__":
    unittest.main()
