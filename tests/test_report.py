"""Reports on anything and a beat [24]."""

import unittest

from samples import EIGHT, LONGEST, MIDDLE_TEXT, SMALLEST_TEXT, long_works, small_works, telling_beats, unlike_works
from stationrow.beats import least_beat
from stationrow.dealings import fault_of, loads_of
from stationrow.dealt import fewest_stands
from stationrow.errors import NoRoom, TooLong
from stationrow.even import most_even
from stationrow.report import report_on
from stationrow.texts import show_works


class Reports(unittest.TestCase):
    def told(self, report, text, beat):
        with self.subTest(text=text, beat=beat):
            answer = report_on(text, beat)
            self.assertIs(type(answer), str)
            self.assertEqual(answer, report)

    def test_ordinary_ones(self):
        self.told("stands 1 beat 1\nstand 1 x 1 a\nuneven 1", SMALLEST_TEXT, 1)
        self.told("stands 1 beat 1\nstand 1 x 1 a\nuneven 1", SMALLEST_TEXT, 10 ** 61 - 1)
        rows = ("stands 2 beat 305", "stand 1 wood 19 saw drill", "stand 2 wood 305 paint", "uneven 93386")
        self.told("\n".join(rows), MIDDLE_TEXT, 305)
        self.told("\n".join(rows), MIDDLE_TEXT, 999)

    def test_the_least_beat_for_the_fewest_stands(self):
        text = "task a 3\ntask b 4\ntask c 5\norder a b\norder b c\nrow x y z"
        self.told("stands 1 beat 12\nstand 1 x 12 a b c\nuneven 144", text, 12)
        self.told("stands 1 beat 12\nstand 1 x 12 a b c\nuneven 144", text, 20)
        self.told("stands 2 beat 7\nstand 1 x 7 a b\nstand 2 y 5 c\nuneven 74", text, 11)
        self.told("stands 2 beat 7\nstand 1 x 7 a b\nstand 2 y 5 c\nuneven 74", text, 7)
        self.told("stands 3 beat 5\nstand 1 x 3 a\nstand 2 y 4 b\nstand 3 z 5 c\nuneven 50", text, 6)
        self.told("stands 3 beat 5\nstand 1 x 3 a\nstand 2 y 4 b\nstand 3 z 5 c\nuneven 50", text, 5)

    def test_the_most_even_dealing(self):
        # d wants the third stand; within the least beat a and b could share a stand, but it would be less even.
        text = "task a 2\ntask b 2\ntask d 4 z\norder a b\norder b d\nrow x y z"
        self.told("stands 3 beat 4\nstand 1 x 2 a\nstand 2 y 2 b\nstand 3 z 4 d\nuneven 24", text, 4)
        self.told("stands 3 beat 4\nstand 1 x 2 a\nstand 2 y 2 b\nstand 3 z 4 d\nuneven 24", text, 99)

    def test_within_the_least_beat_though_a_greater_one_is_more_even(self):
        tasks = "task a 5 x\ntask b 1 x y\ntask c 1 y\ntask d 3 y z\ntask e 1 y z\n"
        rows = ("stands 3 beat 5", "stand 1 x 5 a", "stand 2 y 5 b c d", "stand 3 z 1 e", "uneven 51")
        self.told("\n".join(rows), tasks + "apart b e\napart d e\nrow x y z", 6)

    def test_stands_without_tasks(self):
        rows = ("stands 3 beat 2", "stand 1 x 0", "stand 2 xx 0", "stand 3 y 2 a", "uneven 4")
        self.told("\n".join(rows), "task a 2 y\nrow x xx y x", 2)
        rows = ("stands 4 beat 7", "stand 1 k 7 b", "stand 2 q 0", "stand 3 q 0", "stand 4 z 5 a", "uneven 74")
        self.told("\n".join(rows), "task a 5 z\ntask b 7 k\nrow k q q z", 8)

    def test_tasks_in_their_order(self):
        text = "task z 1\ntask b 2\ntask a 3\norder a b\norder b z\nrow x"
        self.told("stands 1 beat 6\nstand 1 x 6 z b a\nuneven 36", text, 6)

    def test_lengths_of_sixty_figures(self):
        text = show_works(long_works())
        report = report_on(text, LONGEST)
        self.assertEqual(len(report.split("\n")), 10)
        self.assertTrue(report.startswith(f"stands 8 beat {LONGEST}\nstand 1 x "))
        self.assertTrue(report.endswith(f"\nuneven {sum((LONGEST - k) ** 2 for k in range(8))}"))
        self.told(f"TooLong {LONGEST} a", text, LONGEST - 1)
        whole = 8 * LONGEST - 28
        names = " ".join(EIGHT)
        self.told(f"stands 1 beat {whole}\nstand 1 x {whole} {names}\nuneven {whole * whole}", text, 10 ** 61 - 1)

    def test_things_that_are_no_text(self):
        for thing in (None, 0, 5, True, 1.5, b"task a 1\nrow x", (), [], {}, ("task a 1", "row x"), object(), str):
            self.told("NoRow 0", thing, 5)

    def test_no_row(self):
        self.told("NoRow 1", "", 5)
        self.told("NoRow 1", "row", 5)
        self.told("NoRow 2", "row x", 5)
        self.told("NoRow 2", "task a 1", 5)
        self.told("NoRow 3", "task a 1\nrow x\n", 5)
        self.told("NoRow 2", "task a 1\ntask b 01\nrow x", 5)
        eight = "\n".join(f"task {name} 1" for name in "abcdefgh")
        self.told("NoRow 12", eight + "\norder a b\norder b c\nrow x\nrow x", 5)

    def test_twice(self):
        self.told("Twice 2", "task a 1\ntask a 2\nrow x", 5)
        self.told("Twice 1", "task a 1 x x\nrow x", 5)
        self.told("Twice 4", "task a 1\ntask b 1\norder a b\norder a b\nrow x", 5)

    def test_no_task(self):
        self.told("NoTask 2", "task a 1\norder a b\nrow x", 5)
        self.told("NoTask 2", "task a 1\nwith a a\nrow x", 5)

    def test_ring(self):
        text = "task a 1\ntask b 1\norder a b\norder b a\nrow x"
        self.assertIn(report_on(text, 5), ("Ring a b", "Ring b a"))
        text = "task a 1\ntask b 1\ntask c 1\ntask d 1\norder d a\norder c b\norder a c\norder b a\nrow x"
        self.assertIn(report_on(text, 0), ("Ring a c b", "Ring c b a", "Ring b a c"))

    def test_torn(self):
        self.told("Torn b a", "task a 1\ntask b 1\nwith a b\napart b a\nrow x", 5)
        self.told("Torn a b", "task a 1\ntask b 1\nwith a b\napart a b\nrow x", 0)

    def test_no_stand(self):
        self.told("NoStand a", "task a 1 y\nrow x", 5)
        self.told("NoStand a c", "task a 1 x\ntask b 1\ntask c 1 y\nwith c a\nrow x y", 0)

    def test_too_long(self):
        self.told("TooLong 6 b", "task a 5\ntask b 6\ntask c 7\nrow x x x", 5)
        self.told("TooLong 12 a c", "task a 5\ntask b 6\ntask c 7\nwith c a\nrow x x x", 11)
        self.told("TooLong 6 b", "task a 5\ntask b 6\nrow x", 5)

    def test_no_room(self):
        self.told("NoRoom", "task a 5\ntask b 6\nrow x", 6)
        self.told("NoRoom", "task a 5\ntask b 6\nrow x", 10)
        self.told("stands 1 beat 11\nstand 1 x 11 a b\nuneven 121", "task a 5\ntask b 6\nrow x", 11)
        self.told("NoRoom", "task a 1\ntask b 1\napart a b\nrow x", 10 ** 61 - 1)
        self.told("NoRoom", "task a 1 y\ntask b 1 x\norder a b\nrow x y", 99)

    def test_a_beat_of_nought(self):
        self.told("TooLong 1 a", SMALLEST_TEXT, 0)
        self.told("TooLong 19 saw drill", MIDDLE_TEXT, 0)
        self.told("NoRow 0", 7, 0)

    def test_of_two_refusals_the_first(self):
        self.told("NoRow 3", "task a 1\ntask b 2\nodd\ntask a 1\nrow x", 0)
        self.told("Twice 2", "task a 1\ntask a 1\norder a q\nrow x", 0)
        ring = "task a 1 y\ntask b 1\norder a b\norder b a\nwith a b\napart a b\nrow x"
        self.assertIn(report_on(ring, 0), ("Ring a b", "Ring b a"))
        self.told("Torn a b", "task a 1 y\ntask b 1\nwith a b\napart a b\nrow x", 0)
        self.told("NoStand a b", "task a 1 y\ntask b 1\nwith a b\nrow x", 0)
        self.told("TooLong 2 a b", "task a 1 x\ntask b 1\ntask c 1\nwith a b\nrow x", 1)

    def test_held_against_what_is_told_of_the_works(self):
        met = {}
        for works in small_works(90, 120):
            for beat in telling_beats(works):
                with self.subTest(works=works, beat=beat):
                    report = report_on(show_works(works), beat)
                    try:
                        many = fewest_stands(works, beat)[0]
                    except TooLong as refusal:
                        met["long"] = True
                        self.assertEqual(report, f"TooLong {refusal.length} {' '.join(refusal.tasks)}")
                        continue
                    except NoRoom:
                        met["none"] = True
                        self.assertEqual(report, "NoRoom")
                        continue
                    met[many] = True
                    self.dealt(report, works, beat, many)
        self.assertEqual(set(met), {"long", "none", 1, 2, 3, 4})

    def dealt(self, report, works, beat, many):
        """The report's rows, one by one, and the dealing that they tell."""
        rows = report.split("\n")
        least = least_beat(works, many)
        self.assertLessEqual(least, beat)
        self.assertEqual(len(rows), many + 2)
        self.assertEqual(rows[0], f"stands {many} beat {least}")
        self.assertEqual(rows[-1], f"uneven {most_even(works, least, many)[0]}")
        words = [row.split(" ") for row in rows[1:-1]]
        dealing = tuple(tuple(row[4:]) for row in words)
        self.assertIsNone(fault_of(works, least, dealing))
        loads = loads_of(works, dealing)
        self.assertEqual(sum(load * load for load in loads), most_even(works, least, many)[0])
        places = [task[0] for task in works[0]]
        for k, tasks in enumerate(dealing):
            self.assertEqual(words[k][:4], ["stand", str(k + 1), works[3][k], str(loads[k])])
            self.assertEqual(list(tasks), sorted(tasks, key=places.index))

    def test_eight_tasks_and_eight_stands(self):
        text = show_works(unlike_works())
        for beat, many in ((44, 1), (22, 2), (15, 3), (11, 4), (9, 5)):
            self.dealt(report_on(text, beat), unlike_works(), beat, many)
        self.told("TooLong 9 dddd", text, 8)

    def test_no_line_end_behind(self):
        for text in (SMALLEST_TEXT, MIDDLE_TEXT, "", "task a 1 y\nrow x y"):
            self.assertEqual(report_on(text, 305), report_on(text, 305).strip())
            for row in report_on(text, 305).split("\n"):
                self.assertEqual(row, row.strip())

    def test_asked_again_the_same(self):
        texts = [show_works(works) for works in small_works(91, 30)]
        first = [report_on(text, 12) for text in texts]
        again = [report_on(text, 12) for text in reversed(texts)]
        self.assertEqual(first, again[::-1])

    def test_what_is_handed_in_is_not_changed(self):
        thing = ["task a 1", "row x"]
        report_on(thing, 5)
        self.assertEqual(thing, ["task a 1", "row x"])

    def test_by_the_names_of_the_arguments(self):
        self.assertEqual(report_on(text="", beat=0), "NoRow 1")


if __name__ == "__main__":
    unittest.main()
