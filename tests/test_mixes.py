"""The mixed works and the round's beat [21]."""

import unittest

from samples import EIGHT, LONGEST, MIDDLE, SMALLEST, full_works, long_works, many_works, sized_works
from stationrow.beats import least_beat
from stationrow.dealings import fault_of, loads_of
from stationrow.dealt import dealing_to, fewest_stands
from stationrow.errors import NoRoom, TooLong
from stationrow.even import most_even
from stationrow.mixes import mixed_works, round_beat
from stationrow.papers import is_paper, paper_for

MIXES = [(one, other) for one in range(1, 6) for other in range(1, 6)]


class Mixed(unittest.TestCase):
    def test_what_each_task_takes_in_a_round(self):
        self.assertEqual(mixed_works(SMALLEST, (7,), (1, 1)), ((("a", 8, ()),), (), (), ("x",)))
        self.assertEqual(mixed_works(SMALLEST, (7,), (5, 2)), ((("a", 19, ()),), (), (), ("x",)))
        self.assertEqual(mixed_works(SMALLEST, (7,), (2, 5)), ((("a", 37, ()),), (), (), ("x",)))
        mixed = mixed_works(MIDDLE, (1, 20, 300), (3, 2))
        tasks = (("saw", 38, ("wood",)), ("drill", 61, ()), ("paint", 1515, ("wet", "wood")))
        self.assertEqual(mixed, (tasks,) + MIDDLE[1:])

    def test_a_second_length_of_nought(self):
        self.assertEqual(mixed_works(SMALLEST, (0,), (1, 5)), SMALLEST)
        self.assertEqual(mixed_works(SMALLEST, (0,), (4, 1)), ((("a", 4, ()),), (), (), ("x",)))
        mixed = mixed_works(sized_works((3, 4, 5)), (0, 6, 0), (2, 3))
        self.assertEqual(mixed, sized_works((6, 26, 10)))

    def test_all_else_as_it_was(self):
        for works in many_works():
            others = tuple(3 * k for k in range(len(works[0])))
            for mix in MIXES[::4]:
                with self.subTest(works=works, mix=mix):
                    mixed = mixed_works(works, others, mix)
                    self.assertEqual(len(mixed), 4)
                    self.assertEqual(mixed[1:], works[1:])
                    for k, (name, length, kinds) in enumerate(works[0]):
                        self.assertEqual(mixed[0][k], (name, mix[0] * length + mix[1] * others[k], kinds))

    def test_made_of_tuples_and_whole_numbers(self):
        mixed = mixed_works(full_works(), tuple(range(8)), (5, 5))
        self.assertEqual([type(part) for part in mixed], [tuple] * 4)
        for task in mixed[0]:
            self.assertEqual([type(part) for part in task], [str, int, tuple])

    def test_lengths_beyond_those_of_a_works(self):
        mixed = mixed_works(long_works(), tuple(LONGEST - k for k in range(8)), (5, 5))
        self.assertEqual([length for name, length, kinds in mixed[0]], [10 * (LONGEST - k) for k in range(8)])

    def test_nothing_handed_in_is_changed(self):
        before = repr(MIDDLE)
        others = (1, 2, 3)
        first = mixed_works(MIDDLE, others, (1, 2))
        mixed_works(SMALLEST, (1,), (5, 5))
        self.assertEqual(mixed_works(MIDDLE, others, (1, 2)), first)
        self.assertEqual((repr(MIDDLE), others), (before, (1, 2, 3)))

    def test_by_the_names_of_the_arguments(self):
        self.assertEqual(mixed_works(works=SMALLEST, others=(0,), mix=(1, 1)), SMALLEST)
        self.assertEqual(round_beat(beat=3, mix=(1, 1)), 6)


class RoundBeat(unittest.TestCase):
    def test_the_beat_times_the_goods_of_a_round(self):
        for one, other in MIXES:
            for beat in (0, 1, 7, 10 ** 61 - 1):
                told = round_beat(beat, (one, other))
                self.assertEqual(told, beat * one + beat * other)
                self.assertIs(type(told), int)


class Dealt(unittest.TestCase):
    """All that is told holds for mixed works and a round's beat, too."""

    def test_dealt_and_refused(self):
        mixed = mixed_works(sized_works((3, 4, 5)), (9, 0, 2), (2, 3))
        self.assertEqual(loads_of(mixed, (("a", "bb"), ("ccc",))), (41, 16))
        self.assertEqual(fewest_stands(mixed, round_beat(7, (2, 3))), (2, (("a",), ("bb", "ccc"))))
        with self.assertRaises(TooLong) as caught:
            fewest_stands(mixed, round_beat(6, (2, 3)))
        self.assertEqual((caught.exception.tasks, caught.exception.length), (("a",), 33))

    def test_beyond_the_bounds(self):
        works = sized_works([LONGEST] * 8, row=("x",) * 4)
        mixed = mixed_works(works, (LONGEST,) * 8, (5, 5))
        beat = round_beat(2 * LONGEST, (5, 5))
        self.assertGreater(beat, 10 ** 61)
        many, dealing = fewest_stands(mixed, beat)
        self.assertEqual(many, 4)
        self.assertIsNone(fault_of(mixed, beat, dealing))
        self.assertEqual(least_beat(mixed, 4), beat)
        self.assertIsNone(dealing_to(mixed, beat - 1, 4))
        self.assertIs(is_paper(mixed, beat - 1, 4, paper_for(mixed, beat - 1, 4)), True)
        self.assertEqual(most_even(mixed, beat, 4)[0], 4 * beat ** 2)
        with self.assertRaises(NoRoom):
            fewest_stands(mixed, beat - 1)
        with self.assertRaises(TooLong) as caught:
            fewest_stands(mixed, 10 * LONGEST - 1)
        self.assertEqual(caught.exception.tasks, (EIGHT[0],))


if __name__ == "__main__":
    unittest.main()
