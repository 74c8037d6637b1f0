"""Papers: what a right one is, and one where there is no dealing [16, 17]."""

import unittest

from samples import (
    LONGEST, MIDDLE, SMALLEST, all_sets, asked_small, beyond_works, dones_of, has_dealing, is_closed, long_works,
    names_of, other_names, plain_number, plain_works, sized_works, small_works, telling_beats, told_otherwise,
    unlike_works,
)
from stationrow.dealt import dealing_to, fewest_stands
from stationrow.errors import NoRoom, TooLong
from stationrow.fillings import greatest_fillings
from stationrow.papers import is_paper, paper_for
from stationrow.works import turned_about

# Each stand takes one of three tasks of length 2 within a beat of 3: two stands won't do.
THREE = ((("a", 2, ()), ("b", 2, ()), ("c", 2, ())), (), (), ("x", "x", "x"))
THREE_WAYS = (0, (), ("ways", (("a",), ("b",), ("c",))))
THREE_LEFT = tuple((1, (name,), ("left", 4)) for name in "abc")
THREE_PAPER = (THREE_WAYS,) + THREE_LEFT

# Within a beat of 4 the first stand takes a and b, and c has no stand.
LESS = ((("a", 1, ()), ("b", 2, ()), ("c", 5, ())), (), (), ("x", "x", "x"))
LESS_WAYS = (0, (), ("ways", (("a", "b"),)))
LESS_LEFT = (1, ("a", "b"), ("left", 5))

# With b go a and, by an order, c ahead of both.
GROUP = (
    (("a", 2, ()), ("b", 2, ()), ("c", 2, ()), ("d", 9, ())), (("c", "a"),), (("with", "a", "b"),), ("x", "x", "x"),
)


def together(works, done, filling):
    return tuple(name for name in names_of(works) if name in done or name in filling)


def ways_of(works, beat, stands, done):
    fillings = greatest_fillings(works, beat, works[3][stands], done)
    return tuple(together(works, done, filling) for filling in fillings)


def length_left(works, done):
    return sum(length for name, length, kinds in works[0] if name not in done)


def holds(works, beat, many, places, case):
    """Whether a case is one as the document tells, where cases at these places are there."""
    stands, done, (word, thing) = case
    if stands < 0 or stands > many or not is_closed(works, done):
        return False
    if word == "left":
        return thing == length_left(works, done) and thing > beat * (many - stands)
    if word == "less":
        return set(thing) > set(done) and (stands, thing) in places
    if stands == many or thing != ways_of(works, beat, stands, done):
        return False
    return all((stands + 1, other) in places for other in thing)


def is_right(works, beat, many, paper):
    """Whether a paper is right, point by point as the document tells it."""
    places = [(stands, done) for stands, done, reason in paper]
    numbers = [(stands, plain_number(works, done)) for stands, done in places]
    if numbers != sorted(set(numbers)) or (0, ()) not in places:
        return False
    return all(holds(works, beat, many, places, case) for case in paper)


def fullest_paper(works, beat, many):
    """A case for each number of stands and each done from which no dealing is there, less where it may be."""
    hopeless = {}
    for stands in range(many, -1, -1):
        for done in dones_of(works):
            if stands == many:
                hopeless[stands, done] = done != names_of(works)
            else:
                hopeless[stands, done] = all(hopeless[stands + 1, way] for way in ways_of(works, beat, stands, done))
    cases = []
    for (stands, done), lost in hopeless.items():
        more = [other for at, other in hopeless if hopeless[at, other] and at == stands and set(other) > set(done)]
        if lost and more:
            cases.append((stands, done, ("less", more[-1])))
        elif lost and length_left(works, done) > beat * (many - stands):
            cases.append((stands, done, ("left", length_left(works, done))))
        elif lost:
            cases.append((stands, done, ("ways", ways_of(works, beat, stands, done))))
    return tuple(sorted(cases, key=lambda case: (case[0], plain_number(works, case[1]))))


def changed_reasons(works, case):
    """The case with reasons next to its own, and with some of other words."""
    stands, done, (word, thing) = case
    reasons = [("less", done), ("less", names_of(works)), ("ways", ()), ("ways", (done,))]
    reasons += [("left", length_left(works, done) + k) for k in (-1, 0, 1)]
    if word == "ways":
        reasons += [("ways", thing[1:]), ("ways", thing + thing[-1:]), ("ways", thing[::-1]), ("ways", thing[:-1])]
    return [(stands, done, reason) for reason in reasons]


def changed_papers(works, paper):
    """Papers next to one: a case less, twice, elsewhere or otherwise, two cases exchanged."""
    told = [(), paper + paper[:1], paper[::-1]]
    for k, case in enumerate(paper):
        ahead, behind = paper[:k], paper[k + 1:]
        told += [ahead + behind, ahead + (case, case) + behind, ahead + behind[:1] + (case,) + behind[1:]]
        told += [ahead + (other,) + behind for other in changed_reasons(works, case)]
        told += [ahead + ((case[0] + step,) + case[1:],) + behind for step in (-1, 1)]
        told += [ahead + ((case[0], done, case[2]),) + behind for done in all_sets(works)[:6]]
    return told


class RightPapers(unittest.TestCase):
    def told(self, answer, works, beat, many, paper):
        with self.subTest(works=works, beat=beat, many=many, paper=paper):
            self.assertIs(is_paper(works, beat, many, paper), answer)

    def test_right_ones(self):
        self.told(True, THREE, 3, 2, THREE_PAPER)
        self.told(True, LESS, 4, 2, (LESS_WAYS, LESS_LEFT))
        self.told(True, SMALLEST, 1, 0, ((0, (), ("left", 1)),))
        self.told(True, SMALLEST, 0, 1, ((0, (), ("left", 1)),))

    def test_without_cases(self):
        self.told(False, THREE, 3, 2, ())
        self.told(False, SMALLEST, 0, 0, ())
        self.told(False, SMALLEST, 1, 1, ())

    def test_no_case_at_the_first_stand_with_nothing_done(self):
        self.told(False, THREE, 3, 2, THREE_LEFT)
        self.told(False, LESS, 4, 2, (LESS_LEFT,))
        self.told(False, LESS, 4, 1, ((0, ("a",), ("left", 7)),))
        self.told(False, LESS, 4, 1, ((1, (), ("left", 8)),))
        self.told(True, LESS, 4, 1, ((0, (), ("left", 8)), (0, ("a",), ("left", 7)), (1, (), ("left", 8))))

    def test_left_of_another_length(self):
        self.told(True, THREE, 2, 2, ((0, (), ("left", 6)),))
        for length in (0, 4, 5, 7, -6, 60):
            self.told(False, THREE, 2, 2, ((0, (), ("left", length)),))
        for length in (3, 5):
            self.told(False, THREE, 3, 2, (THREE_WAYS, (1, ("a",), ("left", length))) + THREE_LEFT[1:])

    def test_left_that_is_not_above_the_beat_times_the_stands(self):
        paper = ((0, (), ("left", 6)),)
        for beat, many in ((2, 2), (5, 1), (1, 3), (9, 0)):
            self.told(True, THREE, beat, many, paper)
        for beat, many in ((3, 2), (6, 1), (2, 3)):
            self.told(False, THREE, beat, many, paper)
        self.told(True, THREE, 3, 2, THREE_PAPER)
        self.told(False, THREE, 4, 2, THREE_PAPER)
        self.told(False, THREE, 3, 3, THREE_PAPER)

    def test_left_where_all_is_done(self):
        case = (1, ("a",), ("left", 0))
        self.told(False, SMALLEST, 0, 1, ((0, (), ("left", 1)), case))
        self.told(False, SMALLEST, 1, 1, ((0, (), ("ways", (("a",),))), case))

    def test_left_of_lengths_of_sixty_figures(self):
        works = long_works()
        length = 8 * LONGEST - 28
        self.told(True, works, length - 1, 1, ((0, (), ("left", length)),))
        self.told(False, works, length, 1, ((0, (), ("left", length)),))
        self.told(False, works, length - 1, 1, ((0, (), ("left", length - 1)),))
        self.told(True, works, LONGEST - 4, 8, ((0, (), ("left", length)),))
        self.told(False, works, LONGEST - 3, 8, ((0, (), ("left", length)),))

    def test_less(self):
        for done in ((), ("a",), ("b",)):
            self.told(True, LESS, 4, 2, (LESS_WAYS, (1, done, ("less", ("a", "b"))), LESS_LEFT))
        both = ((1, (), ("less", ("a",))), (1, ("a",), ("less", ("a", "b"))))
        self.told(True, LESS, 4, 2, (LESS_WAYS,) + both + (LESS_LEFT,))

    def test_less_that_has_not_all_of_this_done(self):
        one = (1, ("a",), ("less", ("a", "b")))
        other = (1, ("b",), ("less", ("a", "b")))
        self.told(True, LESS, 4, 2, (LESS_WAYS, one, other, LESS_LEFT))
        self.told(False, LESS, 4, 2, (LESS_WAYS, (1, ("a",), ("less", ("b",))), other, LESS_LEFT))
        self.told(False, LESS, 4, 2, (LESS_WAYS, one, (1, ("b",), ("less", ("a",))), LESS_LEFT))
        self.told(False, LESS, 4, 2, (LESS_WAYS, one, other, (1, ("a", "b"), ("less", ("a",)))))

    def test_less_that_is_the_same_one(self):
        self.told(False, LESS, 4, 2, (LESS_WAYS, (1, ("a",), ("less", ("a",))), LESS_LEFT))
        self.told(False, LESS, 4, 2, (LESS_WAYS, (1, ("a", "b"), ("less", ("a", "b")))))
        self.told(False, SMALLEST, 1, 1, ((0, (), ("less", ())),))

    def test_less_that_has_no_case_of_the_same_stands(self):
        case = (1, ("a",), ("less", ("a", "b", "c")))
        self.told(False, LESS, 4, 2, (LESS_WAYS, case, LESS_LEFT))
        self.told(False, LESS, 4, 2, (LESS_WAYS, (1, ("a",), ("less", ("a", "c"))), LESS_LEFT))
        # The other done has a case, but with one stand more or one less.
        self.told(False, LESS, 4, 2, ((0, (), ("less", ("a", "b"))), LESS_LEFT))
        self.told(True, LESS, 4, 1, ((0, (), ("left", 8)), (0, ("a", "b"), ("left", 5)), (1, ("a",), ("left", 7))))
        self.told(
            False, LESS, 4, 1,
            ((0, (), ("left", 8)), (0, ("a", "b"), ("left", 5)), (1, ("a",), ("less", ("a", "b")))),
        )

    def test_ways_where_no_stand_is_left(self):
        paper = ((0, (), ("left", 6)),)
        self.told(True, THREE, 1, 1, paper + ((1, (), ("left", 6)),))
        self.told(False, THREE, 1, 1, paper + ((1, (), ("ways", ((),))),))
        self.told(False, THREE, 1, 1, paper + ((1, (), ("ways", ((),))), (2, (), ("left", 6))))
        self.told(False, THREE, 1, 0, ((0, (), ("ways", ((),))),))
        self.told(False, THREE, 3, 0, (THREE_WAYS,) + THREE_LEFT)
        row_end = ((0, (), ("left", 1)), (1, (), ("ways", ((),))))
        self.told(False, SMALLEST, 0, 1, row_end)

    def test_ways_of_which_one_is_missing(self):
        for others in ((("a",), ("b",)), (("a",), ("c",)), (("b",), ("c",)), (("a",),), ()):
            self.told(False, THREE, 3, 2, ((0, (), ("ways", others)),) + THREE_LEFT)

    def test_ways_doubled_or_one_too_many(self):
        each = (("a",), ("b",), ("c",))
        for others in (each[:1] + each, each + each[2:], ((),) + each, each + each):
            self.told(False, THREE, 3, 2, ((0, (), ("ways", others)), (1, (), ("left", 6))) + THREE_LEFT)

    def test_ways_exchanged(self):
        for others in ((("b",), ("a",), ("c",)), (("a",), ("c",), ("b",)), (("c",), ("b",), ("a",))):
            self.told(False, THREE, 3, 2, ((0, (), ("ways", others)),) + THREE_LEFT)

    def test_ways_of_which_one_has_no_case(self):
        for k in range(3):
            self.told(False, THREE, 3, 2, (THREE_WAYS,) + THREE_LEFT[:k] + THREE_LEFT[k + 1:])
        self.told(False, THREE, 3, 2, (THREE_WAYS,))
        # A case with the done of a way, but with no stand more.
        same = ((0, (), ("ways", (("a", "b"),))), (0, ("a", "b"), ("left", 5)))
        self.told(False, LESS, 4, 1, same)
        self.told(True, LESS, 4, 1, ((0, (), ("left", 8)),) + same[1:])

    def test_ways_are_told_of_what_is_done_behind_them(self):
        works = ((("a", 3, ()), ("b", 2, ()), ("c", 2, ()), ("d", 3, ())), (), (), ("x", "x", "x"))
        start = (0, (), ("left", 10))
        right = (1, ("a",), ("ways", (("a", "b"), ("a", "c"), ("a", "d"))))
        ends = ((2, ("a", "b"), ("left", 5)), (2, ("a", "c"), ("left", 5)), (2, ("a", "d"), ("left", 4)))
        self.told(True, works, 3, 3, (start, right) + ends)
        fillings = (1, ("a",), ("ways", (("b",), ("c",), ("d",))))
        self.told(False, works, 3, 3, (start, fillings) + ends)

    def test_ways_by_the_kind_of_the_next_stand(self):
        works = ((("a", 1, ("x",)), ("b", 1, ("y",)), ("c", 9, ())), (), (), ("x", "y", "x"))
        start = (0, (), ("ways", (("a",),)))
        middle = (1, ("a",), ("ways", (("a", "b"),)))
        end = (2, ("a", "b"), ("left", 9))
        self.told(True, works, 5, 3, (start, middle, end))
        self.told(False, works, 5, 3, ((0, (), ("ways", (("b",),))), (1, ("b",), ("ways", (("b",),))), end))
        self.told(False, works, 5, 3, (start, (1, ("a",), ("ways", (("a",),))), (2, ("a",), ("left", 10))))
        self.told(False, works, 5, 3, ((0, (), ("ways", (("a", "b"),))), (1, ("a", "b"), ("left", 9))))

    def test_a_way_without_tasks(self):
        works = ((("a", 1, ("y",)), ("b", 1, ("y",))), (), (), ("x", "y"))
        self.told(True, works, 1, 2, ((0, (), ("ways", ((),))), (1, (), ("left", 2))))
        self.told(False, works, 1, 2, ((0, (), ("ways", ())), (1, (), ("left", 2))))
        self.told(False, works, 1, 2, ((0, (), ("ways", ((),))),))

    def test_cases_not_sorted_by_stands(self):
        self.told(False, THREE, 3, 2, THREE_LEFT + (THREE_WAYS,))
        self.told(False, LESS, 4, 2, (LESS_LEFT, LESS_WAYS))
        more = (2, ("a",), ("left", 7))
        self.told(True, LESS, 4, 2, (LESS_WAYS, LESS_LEFT, more))
        self.told(False, LESS, 4, 2, (LESS_WAYS, more, LESS_LEFT))

    def test_cases_not_sorted_by_the_number_of_the_done(self):
        for order in ((0, 2, 1), (1, 0, 2), (2, 1, 0)):
            self.told(False, THREE, 3, 2, (THREE_WAYS,) + tuple(THREE_LEFT[k] for k in order))
        # By their numbers c stands behind a and b together, though by names and lengths it would not.
        both = (1, ("a", "b"), ("less", ("a", "b", "c")))
        works = ((("a", 1, ()), ("b", 1, ()), ("c", 1, ()), ("d", 9, ())), (), (), ("x", "x"))
        ways = (0, (), ("ways", (("a", "b", "c"),)))
        end = (1, ("a", "b", "c"), ("left", 9))
        one = (1, ("c",), ("less", ("a", "b", "c")))
        self.told(True, works, 6, 2, (ways, both, one, end))
        self.told(False, works, 6, 2, (ways, one, both, end))

    def test_two_cases_with_the_same_of_both(self):
        for k in range(4):
            self.told(False, THREE, 3, 2, THREE_PAPER[:k + 1] + THREE_PAPER[k:])
        less = (1, ("a",), ("less", ("a", "b")))
        left = (1, ("a",), ("left", 7))
        self.told(True, LESS, 4, 2, (LESS_WAYS, less, LESS_LEFT))
        self.told(True, LESS, 4, 2, (LESS_WAYS, left, LESS_LEFT))
        self.told(False, LESS, 4, 2, (LESS_WAYS, less, left, LESS_LEFT))
        self.told(False, LESS, 4, 2, (LESS_WAYS, left, less, LESS_LEFT))

    def test_stands_more_than_that_many_or_less_than_nought(self):
        start = (0, (), ("left", 6))
        self.told(True, THREE, 1, 2, (start, (2, (), ("left", 6))))
        self.told(False, THREE, 1, 2, (start, (3, (), ("left", 6))))
        self.told(False, THREE, 1, 2, (start, (9, (), ("left", 6))))
        self.told(False, THREE, 1, 0, (start, (1, (), ("left", 6))))
        self.told(False, THREE, 1, 2, ((-1, (), ("left", 6)), start))

    def test_a_done_without_its_whole_group(self):
        start = (0, (), ("left", 15))
        self.told(True, GROUP, 4, 1, (start, (0, ("a", "b", "c"), ("left", 9))))
        self.told(False, GROUP, 4, 1, (start, (0, ("a", "c"), ("left", 11))))
        self.told(False, GROUP, 4, 1, (start, (0, ("b", "c"), ("left", 11))))

    def test_a_done_without_what_must_be_ahead(self):
        start = (0, (), ("left", 15))
        self.told(True, GROUP, 4, 1, (start, (0, ("c",), ("left", 13))))
        self.told(False, GROUP, 4, 1, (start, (0, ("a", "b"), ("left", 11))))
        self.told(False, GROUP, 4, 1, (start, (0, ("a", "b", "d"), ("left", 2))))
        ordered = plain_works("a b c", (("c", "b"),), (), ("x",))
        self.told(True, ordered, 0, 1, ((0, (), ("left", 3)), (0, ("c",), ("left", 2)), (0, ("b", "c"), ("left", 1))))
        self.told(False, ordered, 0, 1, ((0, (), ("left", 3)), (0, ("b",), ("left", 2)), (0, ("c",), ("left", 2))))

    def test_a_done_not_in_the_tasks_order(self):
        start = (0, (), ("left", 6))
        self.told(True, THREE, 1, 2, (start, (1, ("a", "b"), ("left", 2))))
        self.told(False, THREE, 1, 2, (start, (1, ("b", "a"), ("left", 2))))
        self.told(False, THREE, 1, 2, (start, (1, ("a", "a", "b"), ("left", 2))))

    def test_cases_to_which_no_way_leads(self):
        start = (0, (), ("left", 6))
        more = ((0, ("a",), ("left", 4)), (1, ("b", "c"), ("left", 2)), (2, ("a",), ("left", 4)))
        self.told(True, THREE, 1, 2, (start,) + more)
        self.told(True, THREE, 1, 2, (start,) + more[1:])
        wrong = (2, ("a",), ("left", 5))
        self.told(False, THREE, 1, 2, (start,) + more[:2] + (wrong,))

    def test_a_beat_of_nought(self):
        self.told(True, THREE, 0, 3, ((0, (), ("left", 6)),))
        self.told(True, THREE, 0, 3, ((0, (), ("ways", ((),))), (1, (), ("left", 6))))
        self.told(False, THREE, 0, 3, ((0, (), ("ways", ((),))), (1, (), ("left", 5))))

    def test_next_to_those_told_of_small_works(self):
        met = {True: 0, False: 0}
        for works, beat, many in asked_small(40, 60):
            paper = paper_for(works, beat, many)
            if paper is not None:
                for other in changed_papers(works, paper):
                    answer = is_right(works, beat, many, other)
                    met[answer] += 1
                    self.told(answer, works, beat, many, other)
        self.assertGreater(met[True], 100)
        self.assertGreater(met[False], 1000)

    def test_with_all_cases_that_may_stand_there(self):
        words = {}
        for works, beat, many in asked_small(41, 40)[::3]:
            if not has_dealing(works, beat, many):
                paper = fullest_paper(works, beat, many)
                self.told(True, works, beat, many, paper)
                self.assertTrue(is_right(works, beat, many, paper))
                for other in changed_papers(works, paper)[::11]:
                    self.told(is_right(works, beat, many, other), works, beat, many, other)
                words.update({case[2][0]: True for case in paper})
        self.assertEqual(set(words), {"left", "less", "ways"})

    def test_never_right_where_there_is_a_dealing(self):
        tried = 0
        for works in small_works(42, 50):
            stands = range(len(works[3]) + 1)
            beats = telling_beats(works)
            papers = [paper_for(works, beat, many) for beat in beats for many in stands]
            papers = sorted(set(papers) - {None}, key=repr)
            for beat in beats:
                for many in stands:
                    if has_dealing(works, beat, many):
                        for paper in papers:
                            tried += 1
                            self.told(False, works, beat, many, paper)
        self.assertGreater(tried, 500)

    def test_nothing_handed_in_is_changed(self):
        before = repr((THREE, THREE_PAPER))
        first = is_paper(THREE, 3, 2, THREE_PAPER)
        is_paper(LESS, 4, 2, (LESS_WAYS, LESS_LEFT))
        self.assertIs(is_paper(THREE, 3, 2, THREE_PAPER), first)
        paper_for(THREE, 3, 2)
        self.assertEqual(repr((THREE, THREE_PAPER)), before)


class PapersTold(unittest.TestCase):
    def paper(self, there, works, beat, many):
        with self.subTest(works=works, beat=beat, many=many):
            paper = paper_for(works, beat, many)
            if not there:
                self.assertIsNone(paper)
                return
            self.assertIs(is_paper(works, beat, many, paper), True)
            self.assertTrue(is_right(works, beat, many, paper))
            self.assertIs(type(paper), tuple)
            for case in paper:
                stands, done, reason = case
                self.assertEqual([type(part) for part in case], [int, tuple, tuple])
                self.assertEqual(len(reason), 2)
                self.assertIs(type(reason[1]), int if reason[0] == "left" else tuple)

    def test_just_where_there_is_no_dealing(self):
        met = {True: 0, False: 0}
        for works, beat, many in asked_small(43, 250):
            there = has_dealing(works, beat, many)
            met[there] += 1
            self.paper(not there, works, beat, many)
            self.assertEqual(dealing_to(works, beat, many) is None, not there)
        self.assertGreater(met[True], 500)
        self.assertGreater(met[False], 500)

    def test_no_stands(self):
        self.assertEqual(paper_for(SMALLEST, 1, 0), ((0, (), ("left", 1)),))
        for works in small_works(44, 20):
            self.paper(True, works, 10 ** 61 - 1, 0)

    def test_a_beat_of_nought(self):
        for works in small_works(45, 20):
            for many in range(len(works[3]) + 1):
                self.paper(True, works, 0, many)

    def test_kinds_and_pairs_that_no_beat_helps(self):
        self.paper(True, MIDDLE, 10 ** 61 - 1, 1)
        self.paper(False, MIDDLE, 305, 2)
        pairs = (("apart", "a", "b"), ("apart", "b", "c"), ("apart", "c", "a"))
        works = plain_works("a b c", (), pairs, ("x",) * 4)
        for many, there in ((0, True), (1, True), (2, True), (3, False), (4, False)):
            self.paper(there, works, 10 ** 61 - 1, many)

    def test_eight_tasks_and_eight_stands(self):
        works = unlike_works()
        for beat, fewest in ((44, 1), (43, 2), (22, 2), (21, 3), (15, 3), (14, 4), (11, 4), (10, 5), (9, 5), (8, 9)):
            for many in range(9):
                self.paper(many < fewest, works, beat, many)
        # Together they would fit, yet no two of them share a stand.
        sixes = sized_works((6,) * 8)
        for many in range(9):
            self.paper(many < 8, sixes, 11, many)

    def test_lengths_of_sixty_figures(self):
        works = long_works()
        self.paper(True, works, LONGEST - 1, 8)
        self.paper(False, works, LONGEST, 8)
        self.paper(True, works, LONGEST, 7)
        self.paper(True, works, 4 * LONGEST - 15, 2)
        self.paper(False, works, 4 * LONGEST - 14, 2)

    def test_asked_again_the_same(self):
        asked = asked_small(46, 40)
        first = [paper_for(*question) for question in asked]
        again = [paper_for(*question) for question in reversed(asked)]
        self.assertEqual(first, again[::-1])

    def test_one_stand_fewer_than_the_fewest(self):
        for works in small_works(47, 60):
            for beat in telling_beats(works):
                try:
                    many = fewest_stands(works, beat)[0]
                    self.paper(False, works, beat, many)
                    self.paper(True, works, beat, many - 1)
                except (NoRoom, TooLong):
                    self.paper(True, works, beat, len(works[3]))

    def test_other_names_another_order_and_turned_about(self):
        for works, beat, many in asked_small(48, 40):
            there = paper_for(works, beat, many) is not None
            self.paper(there, other_names(works), beat, many)
            self.paper(there, told_otherwise(works), beat, many)
            if many == len(works[3]):
                self.paper(there, turned_about(works), beat, many)

    def test_more_stands_than_the_row_has_are_not_there(self):
        paper = paper_for(SMALLEST, 1, 2)
        self.assertIs(is_paper(SMALLEST, 1, 2, paper), True)
        self.assertIsNone(dealing_to(SMALLEST, 1, 2))

    def test_somewhat_beyond_the_bounds_is_not_refused(self):
        works = beyond_works()
        self.paper(False, works, 10 ** 61, 9)
        self.paper(True, works, 2 * 10 ** 61, 4)

    def test_by_the_names_of_the_arguments(self):
        paper = paper_for(works=SMALLEST, beat=0, many=1)
        self.assertIs(is_paper(works=SMALLEST, beat=0, many=1, paper=paper), True)


if __name__ == "__main__":
    unittest.main()
