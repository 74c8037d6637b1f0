"""The promise over the whole program [3], and what holds of all that is told [2]."""

import unittest
from itertools import permutations
from random import Random

from samples import (
    asked_small, has_dealing, kept_loads, other_names, small_works, telling_beats, told_otherwise, ways_to_deal,
)
from stationrow.beats import beats_of, least_beat
from stationrow.dealings import fault_of, loads_of
from stationrow.dealt import dealing_to, fewest_stands
from stationrow.errors import NoRoom, RowError, TooLong
from stationrow.even import even_table, most_even
from stationrow.fillings import all_fillings, greatest_fillings
from stationrow.lags import greatest_lag, least_lag
from stationrow.mixes import mixed_works, round_beat
from stationrow.papers import is_paper, paper_for
from stationrow.report import report_on
from stationrow.texts import show_works
from stationrow.works import turned_about


def whole_of(works, beat):
    """All that is told of a works' stands, beats and evenness within a beat but which dealing."""
    try:
        fewest = fewest_stands(works, beat)[0]
    except RowError as refusal:
        fewest = type(refusal)
    evens = [most_even(works, beat, many) for many in range(len(works[3]) + 1)]
    return (fewest, beats_of(works), [even and even[0] for even in evens])


class Promise(unittest.TestCase):
    def dealt(self, works, beat, many):
        """There is a dealing to so many stands within the beat, and no paper."""
        dealing = dealing_to(works, beat, many)
        self.assertIsNone(fault_of(works, beat, dealing))
        self.assertEqual(len(dealing), many)
        self.assertIsNone(paper_for(works, beat, many))
        self.assertTrue(has_dealing(works, beat, many))

    def shown(self, works, beat, many):
        """There is a right paper that so many stands won't do, and no dealing."""
        self.assertIs(is_paper(works, beat, many, paper_for(works, beat, many)), True)
        self.assertIsNone(dealing_to(works, beat, many))
        self.assertFalse(has_dealing(works, beat, many))

    def test_a_dealing_or_a_paper_never_both(self):
        met = {True: 0, False: 0}
        for works, beat, many in asked_small(100, 200):
            with self.subTest(works=works, beat=beat, many=many):
                dealing = dealing_to(works, beat, many)
                paper = paper_for(works, beat, many)
                met[paper is None] += 1
                if paper is None:
                    self.dealt(works, beat, many)
                    self.assertIsNotNone(dealing)
                else:
                    self.shown(works, beat, many)
        self.assertGreater(met[True], 500)
        self.assertGreater(met[False], 500)

    def test_the_fewest_stands_are_just_these(self):
        for works in small_works(101, 150):
            for beat in telling_beats(works):
                with self.subTest(works=works, beat=beat):
                    try:
                        many, dealing = fewest_stands(works, beat)
                    except (NoRoom, TooLong):
                        self.shown(works, beat, len(works[3]))
                        continue
                    self.assertIsNone(fault_of(works, beat, dealing))
                    self.dealt(works, beat, many)
                    self.shown(works, beat, many - 1)

    def test_the_least_beats_are_just_these(self):
        for works in small_works(102, 150):
            for many, beat in enumerate((least_beat(works, 0),) + beats_of(works)):
                with self.subTest(works=works, many=many):
                    if beat is None:
                        self.shown(works, 10 ** 61 - 1, many)
                    else:
                        self.dealt(works, beat, many)
                        self.shown(works, beat - 1, many)

    def test_what_is_refused_with_no_room_has_a_paper(self):
        met = 0
        for works in small_works(103, 150):
            for beat in telling_beats(works):
                try:
                    fewest_stands(works, beat)
                except NoRoom:
                    met += 1
                    self.shown(works, beat, len(works[3]))
                except TooLong as refusal:
                    self.assertGreater(refusal.length, beat)
        self.assertGreater(met, 50)

    def test_one_stand_more_never_wants_a_greater_beat(self):
        for works in small_works(104, 100):
            told = [beat for beat in beats_of(works) if beat is not None]
            self.assertEqual(told, sorted(told, reverse=True))

    def test_a_greater_beat_never_wants_more_stands(self):
        for works in small_works(105, 100):
            told = [whole_of(works, beat)[0] for beat in telling_beats(works)]
            told = [many for many in told if type(many) is int]
            self.assertEqual(told, sorted(told, reverse=True))

    def test_other_names_and_another_order(self):
        for works in small_works(106, 60):
            for beat in telling_beats(works):
                with self.subTest(works=works, beat=beat):
                    self.assertEqual(whole_of(other_names(works), beat), whole_of(works, beat))
                    self.assertEqual(whole_of(told_otherwise(works), beat), whole_of(works, beat))

    def test_turned_about_with_all_stands(self):
        for works in small_works(107, 100):
            turned = turned_about(works)
            for beat in telling_beats(works):
                with self.subTest(works=works, beat=beat):
                    self.assertEqual(whole_of(turned, beat)[1][-1], whole_of(works, beat)[1][-1])
                    self.assertEqual(whole_of(turned, beat)[2][-1], whole_of(works, beat)[2][-1])

    def test_no_dealing_is_more_even(self):
        for works, beat, many in asked_small(108, 120):
            even = most_even(works, beat, many)
            if even is not None:
                with self.subTest(works=works, beat=beat, many=many):
                    self.assertIsNone(fault_of(works, beat, even[1]))
                    self.assertEqual(even[0], sum(load * load for load in loads_of(works, even[1])))
                    for loads in kept_loads(works, many):
                        if max(loads) <= beat:
                            self.assertLessEqual(even[0], sum(load * load for load in loads))

    def test_no_turns_have_a_lesser_greatest_lag(self):
        source = Random(109)
        for works in small_works(110, 60):
            others = tuple(source.randint(0, 9) for task in works[0])
            mix = (source.randint(1, 3), source.randint(1, 3))
            mixed = mixed_works(works, others, mix)
            beat = max(length for name, length, kinds in mixed[0])
            dealing = dealing_to(mixed, round_beat(beat, mix), len(works[3]))
            if dealing is not None:
                with self.subTest(works=works, others=others, mix=mix):
                    lag, turns = least_lag(works, others, beat, dealing, mix)
                    self.assertEqual(greatest_lag(works, others, beat, dealing, turns), lag)
                    for some in set(permutations(turns)):
                        self.assertLessEqual(lag, greatest_lag(works, others, beat, dealing, some))

    def test_a_dealing_of_the_mixed_works_is_never_too_long(self):
        source = Random(111)
        met = {True: 0, False: 0}
        for works in small_works(112, 100):
            others = tuple(source.randint(0, 9) for task in works[0])
            mix = (source.randint(1, 5), source.randint(1, 5))
            dealing = source.choice(list(ways_to_deal(works, len(works[3]))))
            beat = source.randint(1, 20)
            fault = fault_of((mixed_works(works, others, mix)[0], (), (), works[3]), round_beat(beat, mix), dealing)
            over = fault is not None and fault[0] == "beat"
            if fault is None or over:
                met[over] += 1
                turns = ("one",) * mix[0] + ("other",) * mix[1]
                try:
                    greatest_lag(works, others, beat, dealing, turns)
                    self.assertFalse(over)
                except TooLong as refusal:
                    self.assertTrue(over)
                    self.assertEqual(refusal.tasks, dealing[fault[1]])
        self.assertGreater(met[True], 5)
        self.assertGreater(met[False], 5)


class AllThatIsTold(unittest.TestCase):
    def asked(self, works, beat, many, dealing, others):
        """What each question about a works is answered with."""
        paper = paper_for(works, beat, many)
        return [
            all_fillings(works, beat, works[3][0], ()),
            greatest_fillings(works, beat, works[3][0], ()),
            fault_of(works, beat, dealing),
            loads_of(works, dealing),
            dealing_to(works, beat, many),
            paper,
            paper is None or is_paper(works, beat, many, paper),
            beats_of(works),
            most_even(works, beat, many),
            even_table(works, beat, many),
            least_lag(works, others, 99, dealing, (2, 2)),
            report_on(show_works(works), beat),
        ]

    def questions(self):
        source = Random(113)
        for works in small_works(114, 40):
            dealing = source.choice(list(ways_to_deal(works, len(works[3]))))
            yield (works, source.randint(0, 20), len(works[3]), dealing, tuple(range(len(works[0]))))

    def test_asked_again_told_alike(self):
        questions = list(self.questions())
        first = [self.asked(*question) for question in questions]
        again = [self.asked(*question) for question in reversed(questions)]
        self.assertEqual(first, again[::-1])

    def test_lists_are_the_askers_own(self):
        for question in self.questions():
            kept = self.asked(*question)
            for answer in self.asked(*question):
                if isinstance(answer, list):
                    answer.clear()
            self.assertEqual(self.asked(*question), kept)

    def test_nothing_handed_in_is_changed(self):
        for question in self.questions():
            before = repr(question)
            self.asked(*question)
            self.assertEqual(repr(question), before)

    def test_whole_numbers_alone(self):
        def numbers(thing):
            if isinstance(thing, (list, tuple)):
                for part in thing:
                    yield from numbers(part)
            elif thing is not None and not isinstance(thing, str):
                yield thing

        for question in self.questions():
            answers = self.asked(*question)
            told = answers[:6] + answers[7:]
            self.assertTrue(all(type(number) is int for number in numbers(told)))


if __name__ == "__main__":
    unittest.main()
