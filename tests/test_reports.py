"""[41]: reports."""

import inspect
import unittest

from drawn import drawn_programs
from flowkinds import reports
from flowkinds.errors import BadText, FlowError, NoName, TooHeavy, Twice
from flowkinds.looking import first_bad, look
from flowkinds.notes import shown_paper
from flowkinds.reports import report
from flowkinds.running import run, shown_value
from flowkinds.ways import chain

FOREVER = "( def f ( fn x ( call f x ) ) ) ( def a ( call f 1 ) )"
FOREVER_KINDS = ["kind f", "+0 (fn -0 +1)", "+1", "-0", "kind a", "+0"]

FILLING = "( def f ( fn x ( call f ( join x x ) ) ) ) ( def a ( call f ( row 1 ) ) )"
FILLING_KINDS = ["kind f", "+0 (fn -0 +1)", "+1", "-0 (row -1)", "-1", "kind a", "+0"]


class ReportCase(unittest.TestCase):
    maxDiff = None

    def told(self, text, rows, turns=2000):
        with self.subTest(text, turns=turns):
            self.assertEqual(report(text, turns).split("\n"), rows)


class LetByTest(ReportCase):
    def test_each_value(self):
        for text, kind, value in (
            ("7", ["+0 num"], "num 7"),
            ("( sub 1 3 )", ["+0 num"], "num -2"),
            ("( fn x x )", ["+0 (fn -0 +1)", "+1", "-0 (to +1)"], "fn"),
            ("( rec )", ["+0 (rec)"], "rec"),
            ("( rec y 1 x 2 )", ["+0 (rec x +1 y +1)", "+1 num"], "rec y x"),
            ("( tag t 1 )", ["+0 (tag t +1)", "+1 num"], "tag t"),
            ("( less 1 2 )", ["+0 (tag yes +1) (tag no +1)", "+1 (rec)"], "tag yes"),
            ("( less 2 1 )", ["+0 (tag yes +1) (tag no +1)", "+1 (rec)"], "tag no"),
            ("( row )", ["+0 (row +1)", "+1"], "row 0"),
            ("( row 1 2 )", ["+0 (row +1)", "+1 num"], "row 2"),
        ):
            self.told(f"( def a {text} )", ["kind a"] + kind + [f"ends done {value}"])

    def test_several_definitions(self):
        self.told(
            "( def twice ( fn x ( add x x ) ) ) ( def one 1 ) ( def four ( call twice ( call twice one ) ) )",
            [
                "kind twice", "+0 (fn -0 +1)", "+1 num", "-0 num", "kind one", "+0 num", "kind four", "+0 num",
                "ends done num 4"])

    # The kind is the short one: both things of the row are one out.
    def test_kinds_are_short(self):
        self.told("( def a ( row ( rec x 1 ) ( rec x 2 ) ) )", [
            "kind a", "+0 (row +1)", "+1 (rec x +2)", "+2 num", "ends done row 2"])

    def test_ends(self):
        self.told(FOREVER, FOREVER_KINDS + ["ends turns"])
        self.told(FILLING, FILLING_KINDS + ["ends full"])

    def test_turns(self):
        text = "( def a 1 ) ( def b ( row a ) )"
        kinds = ["kind a", "+0 num", "kind b", "+0 (row +1)", "+1 num"]
        for turns in (0, 1, 2):
            self.told(text, kinds + ["ends turns"], turns)
        self.told(text, kinds + ["ends done row 1"], 3)
        self.told(FOREVER, FOREVER_KINDS + ["ends turns"], 0)
        self.told(FILLING, FILLING_KINDS + ["ends turns"], 0)

    def test_a_deep_run(self):
        text = (
            "( def f ( fn n ( case ( less n 1 ) yes u n no v " + "( row " * 18 + "( call f ( sub n 1 ) )" + " )" * 18
            + " ) ) ) ( def a ( call f 70 ) )")
        self.assertEqual(report(text, 2000).split("\n")[-1], "ends done row 1")


class RefusedTest(ReportCase):
    def test_the_first(self):
        self.told("( def a ( size 1 ) )", ["refused a made 1 used 0 slot 0", "way 1"])
        self.told("( def a ( add 1 ( row ) ) ) ( def b 2 )", ["refused a made 2 used 0 slot 1", "way 2"])

    def test_one_in_the_middle(self):
        self.told("( def a 1 ) ( def b ( size a ) ) ( def c 2 )", [
            "kind a", "+0 num", "refused b made 0 used 1 slot 0", "way 0 0 2"])

    def test_the_last(self):
        self.told("( def f ( fn x ( size x ) ) ) ( def b ( call f 7 ) )", [
            "kind f", "+0 (fn -0 +1)", "+1 num", "-0 (row -1)", "-1", "refused b made 5 used 1 slot 0", "way 5 0 2"])

    def test_the_way_is_told_by_the_places_of_points(self):
        self.told("( def a ( let x 1 ( size x ) ) )", ["refused a made 1 used 2 slot 0", "way 1 3"])

    # The row's thing goes from its own place to the row's and the at's.
    def test_a_long_way(self):
        self.told("( def a ( get ( at ( row 1 ) 0 ( rec x 2 ) ) x ) )", [
            "refused a made 3 used 0 slot 0", "way 3 2 1"])

    def test_turns_are_no_matter(self):
        for turns in (0, 1, 2000):
            self.told("( def a ( size 1 ) )", ["refused a made 1 used 0 slot 0", "way 1"], turns)

    # It is not run, so that a run of it would end otherwise is no matter.
    def test_what_is_never_run(self):
        self.told("( def a ( fn x ( size 1 ) ) )", ["refused a made 2 used 1 slot 0", "way 2"])


class WordsTest(ReportCase):
    def test_drawn_ones(self):
        ends = []
        for text, _ in drawn_programs(31, 60, 0) + drawn_programs(31, 60, 0.1):
            for turns in (0, 20, 2000):
                self.told(text, self.rows(text, turns), turns)
                ends.append(self.rows(text, turns)[-1].split()[0])
        self.assertGreater(min(ends.count("ends"), ends.count("way")), 60)

    def rows(self, text, turns):
        found = look(text)
        rows = []
        for number, paper in enumerate(found.papers):
            rows += [f"kind {found.program.names[number]}"] + shown_paper(paper).split("\n")
        if found.refused is None:
            ran = run(found.program, found.homes, turns)
            return rows + [f"ends {ran.end}" + (f" {shown_value(ran.value)}" if ran.end == "done" else "")]
        board, log = found.boards[-1], found.logs[-1]
        words = "refused {} made {} used {} slot {}".format(found.program.names[found.refused], *first_bad(found))
        return rows + [words, "way" + "".join(f" {board.points[p]}" for p in chain(log, log.bads[0][0]))]

    def test_the_same_text_each_time(self):
        for text in (FOREVER, FILLING, "( def a ( size 1 ) )"):
            self.assertEqual(report(text, 100), report(text, 100))

    def test_no_line_feed_at_the_end(self):
        for text in (FOREVER, "( def a ( size 1 ) )", "( def a ( rec ) )"):
            self.assertEqual(report(text, 100), report(text, 100).strip())
            self.assertNotIn("\n\n", report(text, 100))


class RefusalTest(unittest.TestCase):
    def test_each(self):
        for text, refusal, fields in (
            ("( def a )", BadText, {}),
            ("( def a 1 ) ( def a 1 )", Twice, {"word": "a"}),
            ("( def a ( row 1 b ) )", NoName, {"word": "b", "place": 2}),
            ("( def a ( row 1 1 1 1 1 1 1 1 ) ) ( def b ( row a a a a a a ) )", TooHeavy, {"word": "b"}),
            ("( def a ( size 1 ) ) ( def b c )", NoName, {"word": "c", "place": 2}),
        ):
            for turns in (0, 100):
                for taken in (refusal, FlowError, ValueError):
                    with self.subTest(text, turns=turns):
                        with self.assertRaises(taken) as caught:
                            report(text, turns)
                        self.assertIs(type(caught.exception), refusal)
                        self.assertEqual({word: getattr(caught.exception, word) for word in fields}, fields)

    def test_the_interface(self):
        self.assertEqual(str(inspect.signature(reports.report)), "(text, turns)")


if __name__ == "__main__":
    unittest.main()
