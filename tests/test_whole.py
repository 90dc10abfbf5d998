"""[42] and [43], with [34]: what running, looking and kinds have to do with one another."""

import random
import unittest

from drawn import drawn_kind, drawn_programs
from flowkinds.bearing import bears, upper
from flowkinds.kinds import small_kinds, under
from flowkinds.laying import laid
from flowkinds.looking import look, look_apart, told_of
from flowkinds.running import answer, run, shown_value
from flowkinds.settling import settled

KINDS = small_kinds("a") + small_kinds("yes")

# Slips from none to many: programs that are let by, and programs that are not.
SLIPS = (0, 0.03, 0.1, 0.5)

NUM = ("num",)
UNIT = ("rec", ())

WRITTEN = (
    "( def f ( fn x ( call x x ) ) ) ( def a ( call f f ) )",
    "( def f ( fn x ( call x x ) ) ) ( def a ( call f ( fn y ( add y 1 ) ) ) )",
    "( def f ( fn n ( case ( less n 1 ) yes u ( row ) no v ( join ( row n ) ( call f ( sub n 1 ) ) ) ) ) ) "
    "( def a ( call f 4 ) ) ( def b ( add ( at a 0 9 ) ( at a 7 9 ) ) ) ( def c ( size b ) )",
    "( def f ( fn x ( call f ( join x x ) ) ) ) ( def a ( call f ( row 1 ) ) )",
    "( def f ( fn x ( case x s y 1 t y y ) ) ) ( def a ( call f ( tag s 1 ) ) ) ( def b ( call f ( tag u 1 ) ) )",
    "( def a ( let s ( fn x x ) ( rec n ( call s 1 ) r ( call s ( row ) ) ) ) ) ( def b ( add ( get a n ) ( get a r ) ) )",
    "( def a ( rec x ( fn y y ) ) ) ( def b ( call ( get a x ) a ) ) ( def c ( call ( get b x ) 1 ) )",
)


# By the word of [43]: the board laid for a definition, with the kind's upper on it.
def is_let_by_as(program, homes, number, kind):
    board = laid(program, homes, number)
    root = board.root
    board.flow(root, upper(board, kind))
    return settled(board).bads == []


class RunsTest(unittest.TestCase):
    def whole(self, text):
        found = look(text)
        met, bad, arrived = told_of(text)
        ends = []
        for turns in (0, 1, 13, 100, 2000):
            ran = run(found.program, found.homes, turns)
            self.assertLessEqual(set(ran.meets), set(met))
            self.assertLessEqual(set(ran.had), set(arrived))
            if ran.end == "wrong":
                self.assertIn(ran.meets[-1], bad)
                self.assertIsNotNone(found.refused)
            ends.append(ran.end)
        self.assertEqual(found.refused is None, bad == [])
        return ends[-1], found.refused is None

    def test_drawn_ones(self):
        found = []
        for seed, slip in enumerate(SLIPS):
            for text, _ in drawn_programs(seed, 150, slip):
                with self.subTest(text):
                    found.append(self.whole(text))
        # All that can be was among them: a refused one may run well, too.
        for one in (("done", True), ("done", False), ("wrong", False), ("turns", True)):
            self.assertGreater(found.count(one), 5, one)

    def test_written_ones(self):
        for text in WRITTEN:
            with self.subTest(text):
                self.whole(text)

    # A triple for each use, wrong or not, has the places that a run has.
    def test_each_use_with_each_thing(self):
        for thing in ("7", "( fn x x )", "( rec a 7 )", "( rec )", "( tag t 7 )", "( tag s 7 )", "( row 7 )"):
            for use in (
                "( call X 1 )", "( get X a )", "( case X t x x )", "( size X )", "( at X 0 1 )", "( at ( row ) X 1 )",
                "( join X ( row ) )", "( join ( row ) X )", "( add X 1 )", "( add 1 X )", "( sub X 1 )",
                "( sub 1 X )", "( less X 1 )", "( less 1 X )",
            ):
                text = f"( def a {use.replace('X', thing)} )"
                with self.subTest(text):
                    end, let_by = self.whole(text)
                    self.assertEqual(end == "wrong", not let_by)


class ApartTest(unittest.TestCase):
    def test_the_same_one_is_refused(self):
        found = []
        for seed, slip in enumerate(SLIPS):
            for text, _ in drawn_programs(50 + seed, 150, slip):
                with self.subTest(text):
                    found.append(look(text).refused)
                    self.assertEqual(look_apart(text).refused, found[-1])
        for text in WRITTEN:
            with self.subTest(text):
                self.assertEqual(look_apart(text).refused, look(text).refused)
        for refused in (None, 0, 1, 2):
            self.assertGreater(found.count(refused), 10)

    def borne(self, text, kinds):
        one, other = look(text), look_apart(text)
        counts = [0, 0]
        for number, paper in enumerate(one.papers):
            for kind in kinds:
                wanted = is_let_by_as(one.program, one.homes, number, kind)
                self.assertIs(bears(paper, kind), wanted)
                self.assertIs(bears(other.papers[number], kind), wanted)
                counts[wanted] += 1
        return counts

    def test_what_papers_bear(self):
        counts = [0, 0]
        for seed, slip in enumerate(SLIPS):
            for text, _ in drawn_programs(70 + seed, 25, slip):
                with self.subTest(text):
                    found = self.borne(text, KINDS)
                    counts = [counts[0] + found[0], counts[1] + found[1]]
        for text in WRITTEN:
            with self.subTest(text):
                self.borne(text, KINDS)
        self.assertGreater(min(counts), 1000)

    def test_larger_kinds(self):
        chance = random.Random(80)
        for text, _ in drawn_programs(81, 60, 0.03):
            with self.subTest(text):
                self.borne(text, [drawn_kind(chance, 4) for _ in range(12)])


class GivenTest(unittest.TestCase):
    def given(self, text, kinds):
        for asked in (look, look_apart):
            found = asked(text)
            self.assertIsNone(found.refused)
            for paper, some in zip(found.papers, kinds, strict=True):
                for kind in some:
                    self.assertIs(bears(paper, kind), True, kind)

    # The drawn ones keep to the plain rules, and tell the kinds that they were drawn to have.
    def test_drawn_ones(self):
        chance = random.Random(90)
        for text, kinds in drawn_programs(91, 250, 0):
            more = [drawn_kind(chance, 3) for _ in range(10)]
            with self.subTest(text):
                self.given(text, [
                    some + [kind for kind in more if any(under(one, kind) for one in some)] for some in kinds])

    def test_written_ones(self):
        both = ("choice", (("no", UNIT), ("yes", UNIT)))
        for text, kinds in (
            ("( def a 1 )", [[NUM, ("any",)]]),
            ("( def a ( less 1 2 ) )", [[both, ("any",)]]),
            ("( def a ( fn x x ) )", [[("fn", kind, kind) for kind in KINDS]]),
            ("( def a ( fn x ( add x 1 ) ) )", [[("fn", NUM, NUM), ("fn", ("choice", ()), ("any",))]]),
            ("( def a ( fn x ( get x b ) ) )", [[("fn", ("rec", (("b", kind), ("c", NUM))), kind) for kind in KINDS]]),
            # A name of a let and of a definition, with kinds of its own each time.
            ("( def a ( let s ( fn x x ) ( rec n ( add 1 ( call s 1 ) ) r ( size ( call s ( row ) ) ) ) ) )",
             [[("rec", (("n", NUM), ("r", NUM)))]]),
            ("( def s ( fn x x ) ) ( def a ( rec n ( add 1 ( call s 1 ) ) r ( size ( call s ( row ) ) ) ) )",
             [[("fn", NUM, NUM), ("fn", UNIT, UNIT)], [("rec", (("n", NUM), ("r", NUM)))]]),
            # What is handed on may be under what is wanted.
            ("( def f ( fn x ( get x b ) ) ) ( def a ( call f ( rec c ( row ) b 1 ) ) )",
             [[("fn", ("rec", (("b", NUM),)), NUM)], [NUM]]),
            ("( def f ( fn x ( case x s y y t y 1 ) ) ) ( def a ( call f ( tag s 7 ) ) )",
             [[("fn", ("choice", (("s", NUM), ("t", UNIT))), NUM)], [NUM]]),
            ("( def f ( fn n ( case ( less n 1 ) yes u ( row ) no v ( join ( row n ) ( call f ( sub n 1 ) ) ) ) ) )",
             [[("fn", NUM, ("row", NUM))]]),
        ):
            with self.subTest(text):
                self.given(text, kinds)

    # What it is given tells what a run comes to.
    def test_a_run_comes_to_what_was_given(self):
        shapes = {"num": "num", "fn": "fn", "rec": "rec", "choice": "tag", "row": "row"}
        count = 0
        for text, kinds in drawn_programs(92, 150, 0):
            found = look(text)
            ran = run(found.program, found.homes, 2000)
            if ran.end == "done" and kinds[-1] and kinds[-1][0] != ("any",):
                self.assertEqual(shown_value(answer(ran)).split()[0], shapes[kinds[-1][0][0]], text)
                count += 1
        self.assertGreater(count, 80)


if __name__ == "__main__":
    unittest.main()
