"""The greatest lag of some turns [22], and the least lag of a mix [23]."""

import unittest
from itertools import permutations
from random import Random

from samples import (
    EIGHT, LONGEST, SMALLEST, names_of, plain_works, sized_works, small_works, unlike_works, ways_to_deal,
)
from stationrow.errors import RowError, TooLong
from stationrow.lags import greatest_lag, least_lag

ONE = ("one",)
OTHER = ("other",)


def loads_by_good(works, others, tasks):
    """A stand's loads for the first and the second good."""
    lengths = {task[0]: (task[1], other) for task, other in zip(works[0], others)}
    return {
        "one": sum(lengths[name][0] for name in tasks),
        "other": sum(lengths[name][1] for name in tasks),
    }


def lags_good_by_good(works, others, beat, tasks, turns, rounds):
    """The lags of a stand after each good of so many rounds."""
    loads = loads_by_good(works, others, tasks)
    lags = [0]
    for word in turns * rounds:
        lags.append(max(lags[-1] + loads[word] - beat, 0))
    return lags


def plain_greatest(works, others, beat, dealing, turns, rounds=12):
    return max(max(lags_good_by_good(works, others, beat, tasks, turns, rounds)) for tasks in dealing)


def plain_turns(mix):
    """All turns of a mix, none twice."""
    return sorted(set(permutations(ONE * mix[0] + OTHER * mix[1])))


def long_stands(works, others, beat, dealing, mix):
    """Each stand whose load of a round is above the round's beat, with this load."""
    told = []
    for tasks in dealing:
        loads = loads_by_good(works, others, tasks)
        load = mix[0] * loads["one"] + mix[1] * loads["other"]
        if load > beat * sum(mix):
            told.append((tasks, load))
    return told


def some_questions(seed, count):
    """Works, second lengths, a dealing and beats at which a round fits, just fits, or is above the round's beat."""
    source = Random(seed)
    told = []
    for works in small_works(seed, count):
        ways = list(ways_to_deal(works, len(works[3])))
        dealing = tuple(tuple(source.sample(tasks, len(tasks))) for tasks in source.choice(ways))
        others = tuple(source.randint(0, 12) for task in works[0])
        loads = [loads_by_good(works, others, tasks) for tasks in dealing]
        most = max(load["one"] + load["other"] for load in loads)
        told += [(works, others, beat, dealing) for beat in sorted({(most + 1) // 2, most // 2 + 1, most // 3, most})]
    return told


class Lags(unittest.TestCase):
    def too_long(self, tasks, length, asked, *question):
        with self.subTest(asked=asked, question=question):
            with self.assertRaises(TooLong) as caught:
                asked(*question)
            self.assertEqual(caught.exception.tasks, tasks)
            self.assertIs(type(caught.exception.tasks), tuple)
            self.assertEqual(caught.exception.length, length)
            self.assertIs(type(caught.exception.length), int)
            self.assertIsInstance(caught.exception, RowError)


class GreatestLag(Lags):
    def lag(self, lag, works, others, beat, dealing, turns):
        with self.subTest(works=works, others=others, beat=beat, dealing=dealing, turns=turns):
            told = greatest_lag(works, others, beat, dealing, turns)
            self.assertEqual(told, lag)
            self.assertIs(type(told), int)

    def test_ordinary_ones(self):
        works = sized_works((6,))
        self.lag(2, works, (2,), 4, (("a",),), ONE + OTHER)
        self.lag(4, works, (2,), 4, (("a",),), ONE + ONE + OTHER + OTHER)
        self.lag(2, works, (2,), 4, (("a",),), ONE + OTHER + ONE + OTHER)
        self.lag(1, works, (2,), 5, (("a",),), ONE + OTHER)
        self.lag(0, works, (2,), 6, (("a",),), ONE + OTHER)
        self.lag(0, SMALLEST, (0,), 1, (("a",),), ONE + OTHER)

    def test_the_second_good_is_the_longer_one(self):
        self.lag(5, sized_works((1,)), (9,), 4, (("a",),), ONE + ONE + OTHER)
        self.lag(5, sized_works((1,)), (9,), 4, (("a",),), OTHER + ONE + ONE)
        self.lag(10, sized_works((1,)), (9,), 4, (("a",),), ONE * 4 + OTHER * 2)

    def test_a_lag_that_grows_over_more_than_one_round(self):
        works = sized_works((6,))
        turns = ONE + OTHER + OTHER + ONE
        self.assertEqual(max(lags_good_by_good(works, (2,), 4, ("a",), turns, 1)), 2)
        self.lag(4, works, (2,), 4, (("a",),), turns)
        late = ONE + OTHER * 3 + ONE * 2
        self.assertEqual(max(lags_good_by_good(works, (2,), 4, ("a",), late, 1)), 4)
        self.lag(6, works, (2,), 4, (("a",),), late)

    def test_of_all_stands_the_greatest(self):
        works = sized_works((6, 1, 3))
        others = (2, 9, 5)
        self.lag(4, works, others, 5, (("a",), ("bb",), ("ccc",)), ONE + OTHER)
        self.lag(4, works, others, 5, (("bb",), ("ccc",), ("a",)), ONE + OTHER)
        self.lag(4, works, others, 9, (("a", "bb"), ("ccc",)), ONE + ONE + OTHER + OTHER)

    def test_stands_without_tasks(self):
        works = sized_works((6,))
        self.lag(2, works, (2,), 4, ((), ("a",), ()), ONE + OTHER)
        self.lag(0, works, (2,), 6, ((), (), ("a",)), ONE + OTHER)

    def test_each_stands_tasks_in_any_order(self):
        works = sized_works((6, 1, 3))
        for tasks in permutations(EIGHT[:3]):
            self.lag(2, works, (2, 2, 3), 9, (tasks,), ONE + ONE + OTHER)

    def test_a_round_that_just_fits_and_one_that_does_not(self):
        works = sized_works((6,))
        self.lag(2, works, (2,), 4, (("a",),), ONE + OTHER)
        self.too_long(("a",), 9, greatest_lag, works, (3,), 4, (("a",),), ONE + OTHER)
        self.lag(4, works, (0,), 4, (("a",),), ONE + ONE + OTHER)
        self.too_long(("a",), 12, greatest_lag, works, (0,), 3, (("a",),), ONE + OTHER + ONE)
        self.lag(6, sized_works((9,)), (0,), 6, (("a",),), ONE + OTHER + ONE)
        self.too_long(("a",), 19, greatest_lag, sized_works((9,)), (1,), 6, (("a",),), ONE + OTHER + ONE)

    def test_too_long_by_the_first_such_stand_and_as_it_stands(self):
        works = sized_works((6, 7, 8, 1))
        dealing = (("dddd",), ("bb", "a"), ("ccc",))
        self.too_long(("bb", "a"), 26, greatest_lag, works, (6, 7, 8, 0), 12, dealing, ONE + OTHER)
        self.too_long(("ccc",), 24, greatest_lag, works, (1, 1, 8, 0), 7, dealing, ONE + OTHER + OTHER)
        self.too_long(("dddd",), 2, greatest_lag, works, (6, 7, 8, 1), 0, dealing, ONE + OTHER)

    def test_a_beat_of_nought(self):
        self.too_long(("a",), 1, greatest_lag, SMALLEST, (0,), 0, (("a",),), ONE + OTHER)
        self.too_long(("a",), 5, greatest_lag, SMALLEST, (0,), 0, ((), ("a",)), ONE * 5 + OTHER)

    def test_dealings_that_break_orders_pairs_kinds_and_the_beat(self):
        works = (
            (("a", 6, ("x",)), ("b", 2, ()), ("c", 1, ("y",))),
            (("a", "b"),),
            (("with", "a", "b"), ("apart", "b", "c")),
            ("x", "y"),
        )
        self.lag(1, works, (0, 0, 1), 5, (("c", "b"), ("a",)), ONE + OTHER)

    def test_held_against_many_rounds(self):
        source = Random(80)
        met = {True: 0, False: 0}
        for works, others, beat, dealing in some_questions(81, 150):
            for mix in ((1, 1), (2, 3), (source.randint(1, 5), source.randint(1, 5)), (5, 5)):
                turns = tuple(source.sample(ONE * mix[0] + OTHER * mix[1], sum(mix)))
                long = long_stands(works, others, beat, dealing, mix)
                met[long == []] += 1
                if long:
                    self.too_long(*long[0], greatest_lag, works, others, beat, dealing, turns)
                else:
                    lag = plain_greatest(works, others, beat, dealing, turns)
                    self.lag(lag, works, others, beat, dealing, turns)
        self.assertGreater(met[True], 200)
        self.assertGreater(met[False], 100)

    def test_for_each_stand_by_itself(self):
        # Each task has a stand of its own: of the works with this task alone the lag is the stand's.
        works = unlike_works()
        others = (5, 12, 0, 2, 9, 3, 1, 11)
        turns = ONE + OTHER + ONE + OTHER + OTHER
        dealing = tuple((name,) for name in names_of(works))
        lags = []
        for task, other in zip(works[0], others):
            alone = ((task,), (), (), ("x",))
            lags.append(greatest_lag(alone, (other,), 10, ((task[0],),), turns))
            self.assertEqual(lags[-1], plain_greatest(alone, (other,), 10, ((task[0],),), turns))
        self.lag(max(lags), works, others, 10, dealing, turns)

    def test_beginning_at_another_place_it_is_the_same(self):
        source = Random(82)
        for works, others, beat, dealing in some_questions(83, 60):
            mix = (source.randint(1, 5), source.randint(1, 5))
            if not long_stands(works, others, beat, dealing, mix):
                turns = tuple(source.sample(ONE * mix[0] + OTHER * mix[1], sum(mix)))
                lag = greatest_lag(works, others, beat, dealing, turns)
                for k in range(len(turns)):
                    self.lag(lag, works, others, beat, dealing, turns[k:] + turns[:k])

    def test_lengths_of_sixty_figures(self):
        works = sized_works((LONGEST, LONGEST - 1))
        dealing = (("bb", "a"), ())
        self.lag(LONGEST - 1, works, (0, 0), LONGEST, dealing, ONE + OTHER)
        self.lag(5 * (LONGEST - 1), works, (0, 0), LONGEST, dealing, ONE * 5 + OTHER * 5)
        self.too_long(("bb", "a"), 2 * LONGEST, greatest_lag, works, (0, 1), LONGEST - 1, dealing, ONE + OTHER)

    def test_nothing_handed_in_is_changed(self):
        works = sized_works((6, 1, 3))
        question = (works, (2, 9, 5), 9, (("bb", "a"), ("ccc",)), ONE + OTHER)
        before = repr(question)
        first = greatest_lag(*question)
        least_lag(*question[:4], (2, 2))
        greatest_lag(SMALLEST, (1,), 1, (("a",),), OTHER + ONE)
        self.assertEqual(greatest_lag(*question), first)
        self.assertEqual(repr(question), before)

    def test_by_the_names_of_the_arguments(self):
        dealing = (("a",),)
        self.assertEqual(greatest_lag(works=SMALLEST, others=(0,), beat=1, dealing=dealing, turns=ONE + OTHER), 0)
        self.assertEqual(least_lag(works=SMALLEST, others=(0,), beat=1, dealing=dealing, mix=(1, 1))[0], 0)


class LeastLag(Lags):
    def least(self, lag, works, others, beat, dealing, mix):
        with self.subTest(works=works, others=others, beat=beat, dealing=dealing, mix=mix):
            told = least_lag(works, others, beat, dealing, mix)
            self.assertIs(type(told), tuple)
            self.assertEqual(len(told), 2)
            self.assertIs(type(told[0]), int)
            self.assertEqual(told[0], lag)
            self.assertIs(type(told[1]), tuple)
            self.assertEqual((told[1].count("one"), told[1].count("other")), mix)
            self.assertEqual(len(told[1]), sum(mix))
            self.assertEqual(greatest_lag(works, others, beat, dealing, told[1]), lag)
            self.assertEqual(plain_greatest(works, others, beat, dealing, told[1]), lag)

    def test_ordinary_ones(self):
        works = sized_works((6,))
        self.least(2, works, (2,), 4, (("a",),), (1, 1))
        self.least(2, works, (2,), 4, (("a",),), (2, 2))
        self.least(2, works, (2,), 4, (("a",),), (3, 3))
        self.least(2, works, (2,), 4, (("a",),), (2, 5))
        self.least(0, works, (2,), 6, (("a",),), (5, 1))

    def test_where_all_of_one_good_can_not_be_parted(self):
        works = sized_works((1,))
        self.least(5, works, (9,), 4, (("a",),), (2, 1))
        self.least(5, works, (9,), 4, (("a",),), (4, 2))

    def test_stands_that_want_unlike_turns(self):
        works = sized_works((6, 1))
        others = (1, 6)
        self.least(2, works, others, 4, (("a",), ("bb",)), (1, 1))
        self.least(2, works, others, 4, (("a",), ("bb",)), (2, 2))

    def test_too_long(self):
        works = sized_works((6, 7, 8, 1))
        dealing = (("dddd",), ("bb", "a"), ("ccc",))
        self.too_long(("bb", "a"), 26, least_lag, works, (6, 7, 8, 0), 12, dealing, (1, 1))
        self.too_long(("ccc",), 24, least_lag, works, (1, 1, 8, 0), 7, dealing, (1, 2))
        self.least(2, sized_works((6,)), (2,), 4, (("a",),), (1, 1))
        self.too_long(("a",), 9, least_lag, sized_works((6,)), (3,), 4, (("a",),), (1, 1))
        self.too_long(("a",), 14, least_lag, sized_works((6,)), (2,), 4, (("a",),), (2, 1))

    def test_held_against_all_turns_to_three_of_each(self):
        mixes = [(one, other) for one in range(1, 4) for other in range(1, 4)]
        turns = {mix: plain_turns(mix) for mix in mixes}
        met = {True: 0, False: 0}
        for k, (works, others, beat, dealing) in enumerate(some_questions(84, 60)):
            for mix in mixes[k % 2::2]:
                long = long_stands(works, others, beat, dealing, mix)
                met[long == []] += 1
                if long:
                    self.too_long(*long[0], least_lag, works, others, beat, dealing, mix)
                else:
                    lags = [plain_greatest(works, others, beat, dealing, some, 4) for some in turns[mix]]
                    self.least(min(lags), works, others, beat, dealing, mix)
        self.assertGreater(met[True], 200)
        self.assertGreater(met[False], 100)

    def test_held_against_all_turns_of_some_greater_mixes(self):
        turns = {mix: plain_turns(mix) for mix in ((4, 2), (1, 5), (5, 3), (4, 4))}
        for works, others, beat, dealing in some_questions(85, 12):
            for mix in turns:
                if not long_stands(works, others, beat, dealing, mix):
                    lags = [plain_greatest(works, others, beat, dealing, some, 3) for some in turns[mix]]
                    self.least(min(lags), works, others, beat, dealing, mix)

    def test_five_and_five(self):
        self.least(2, sized_works((6,)), (2,), 4, (("a",),), (5, 5))
        works = unlike_works()
        dealing = tuple((name,) for name in names_of(works))
        others = (3, 7, 5, 1, 6, 4, 2, 8)
        lag = least_lag(works, others, 5, dealing, (5, 5))[0]
        self.least(4, works, others, 5, dealing, (5, 5))
        self.assertEqual(lag, greatest_lag(works, others, 5, dealing, (ONE + OTHER) * 5))

    def test_lengths_of_sixty_figures(self):
        works = sized_works((LONGEST, LONGEST - 1))
        self.least(LONGEST - 1, works, (0, 0), LONGEST, (("bb", "a"), ()), (5, 5))
        self.least(LONGEST - 1, works, (0, 0), LONGEST, (("bb", "a"), ()), (1, 3))

    def test_asked_again_the_same(self):
        asked = [question for question in some_questions(86, 30) if not long_stands(*question, (2, 3))]
        first = [least_lag(*question, (2, 3)) for question in asked]
        again = [least_lag(*question, (2, 3)) for question in reversed(asked)]
        self.assertEqual(first, again[::-1])
        self.assertGreater(len(asked), 20)

    def test_stands_without_tasks(self):
        self.least(2, sized_works((6,)), (2,), 4, ((), ("a",), ()), (2, 2))
        self.least(0, plain_works("a b"), (0, 1), 2, ((), ("b", "a")), (3, 1))


if __name__ == "__main__":
    unittest.main()
