"""[29] and [30], with [3], [4], [17] and [26]: papers as texts."""

import copy
import inspect
import random
import unittest

from flowkinds import notes
from flowkinds.errors import BadPaper, FlowError
from flowkinds.homes import homes_of
from flowkinds.laying import laid
from flowkinds.notes import read_paper, shown_paper
from flowkinds.papers import Paper
from flowkinds.polar import paper_of
from flowkinds.reading import read, words_of
from flowkinds.settling import settled
from flowkinds.shortening import short_of

NUM = ("num",)
ANY = ("any",)

# Every making and every use, in one orderly paper.
FULL = Paper(
    [
        (("fn", 0, 1), ("rec", (("a", 1), ("b", 2))), ("tag", "t", 3), ("row", 1), NUM, ANY, ("rec", ())),
        (), (NUM,), (("row", 3),), (ANY,),
    ],
    [
        (("call", 4, 1), ("take", (("x", 1), ("y", 2))), ("case", (("s", 3),)), ("row", 1), NUM, ("take", ()),
         ("case", ())),
        (), (NUM,), (("call", 0, 0),),
    ],
    [(0, 1), (0, 3), (1, 1), (3, 0), (3, 2), (3, 4)])

FULL_TEXT = """+0 (fn -0 +1) (rec a +1 b +2) (tag t +3) (row +1) num any (rec)
+1
+2 num
+3 (row +3)
+4 any
-0 (call +4 -1) (take x -1 y -2) (case s -3) (row -1) num (take) (case) (to +1 +3)
-1 (to +1)
-2 num
-3 (call +0 -0) (to +0 +2 +4)"""

PROGRAM = """( def twice ( fn f ( fn x ( call f ( call f x ) ) ) ) )
( def down ( fn n ( case ( less n 1 ) yes u n no v ( call down ( sub n 1 ) ) ) ) )
( def all ( let r ( rec a twice b ( row 1 2 ) ) ( call ( call ( get r a ) down ) ( at ( get r b ) 0 3 ) ) ) )
( def sum ( fn l ( case l nil u 0 cons c ( add ( get c head ) ( call sum ( get c tail ) ) ) ) ) )"""


def fields(paper):
    return (paper.outs, paper.ins, paper.flows)


def papers_of_programs():
    program = read(PROGRAM)
    homes = homes_of(program)
    papers = []
    for which in range(len(program.roots)):
        board = laid(program, homes, which)
        papers.append(paper_of(board, settled(board))[0])
    return papers + [short_of(paper)[0] for paper in papers]


def parts(thing, side):
    other = "in" if side == "out" else "out"
    if thing[0] in ("fn", "call"):
        return [(other, thing[1]), (side, thing[2])]
    if thing[0] in ("rec", "take", "case"):
        return [(side, number) for _, number in thing[1]]
    return [(side, thing[-1])] if thing[0] in ("tag", "row") else []


# As the words of [26] go.
def is_orderly(paper):
    sides = {"out": paper.outs, "in": paper.ins}
    counts = {"out": 1, "in": 0}
    queue = [("out", 0)]
    for side, number in queue:
        things = sides[side][number]
        if len(set(things)) < len(things):
            return False
        for thing in things:
            if thing[0] in ("rec", "take", "case"):
                words = [word for word, _ in thing[1]]
                if words != sorted(set(words)):
                    return False
            for part in parts(thing, side):
                if part not in queue:
                    if part[1] != counts[part[0]]:
                        return False
                    counts[part[0]] += 1
                    queue.append(part)
    return counts == {"out": len(paper.outs), "in": len(paper.ins)} and paper.flows == sorted(set(paper.flows))


class ShownTest(unittest.TestCase):
    maxDiff = None

    def shown(self, outs, ins, flows, wanted):
        paper = Paper(list(outs), list(ins), list(flows))
        before = copy.deepcopy(vars(paper))
        with self.subTest(wanted):
            found = shown_paper(paper)
            self.assertIs(type(found), str)
            self.assertEqual(found, wanted)
            self.assertEqual(vars(paper), before)

    def test_an_out_without_makings(self):
        self.shown([()], [], [], "+0")

    def test_each_making(self):
        for making, wanted in (
            (NUM, "num"), (ANY, "any"), (("rec", ()), "(rec)"), (("rec", (("x", 0),)), "(rec x +0)"),
            (("rec", (("x", 1), ("y", 0), ("z", 1))), "(rec x +1 y +0 z +1)"), (("tag", "t", 1), "(tag t +1)"),
            (("row", 0), "(row +0)"), (("fn", 0, 1), "(fn -0 +1)"), (("fn", 1, 0), "(fn -1 +0)"),
        ):
            self.shown([(making,), ()], [(), ()], [], f"+0 {wanted}\n+1\n-0\n-1")
            self.shown([(), (making,)], [(), ()], [], f"+0\n+1 {wanted}\n-0\n-1")

    def test_each_use(self):
        for use, wanted in (
            (NUM, "num"), (("call", 1, 0), "(call +1 -0)"), (("call", 0, 1), "(call +0 -1)"), (("take", ()), "(take)"),
            (("take", (("x", 0),)), "(take x -0)"), (("take", (("x", 1), ("y", 0))), "(take x -1 y -0)"),
            (("case", ()), "(case)"), (("case", (("t", 1),)), "(case t -1)"),
            (("case", (("s", 0), ("t", 1), ("u", 0))), "(case s -0 t -1 u -0)"), (("row", 1), "(row -1)"),
        ):
            self.shown([(), ()], [(use,), ()], [], f"+0\n+1\n-0 {wanted}\n-1")
            self.shown([(), ()], [(), (use,)], [(1, 1)], f"+0\n+1\n-0\n-1 {wanted} (to +1)")

    def test_several_in_one_row(self):
        self.shown(FULL.outs, FULL.ins, FULL.flows, FULL_TEXT)

    def test_flows(self):
        self.shown([(), ()], [(), (), ()], [], "+0\n+1\n-0\n-1\n-2")
        self.shown([(), ()], [(), (), ()], [(0, 0)], "+0\n+1\n-0 (to +0)\n-1\n-2")
        self.shown([(), ()], [(), (NUM,), ()], [(0, 0), (0, 1), (2, 1)], "+0\n+1\n-0 (to +0 +1)\n-1 num\n-2 (to +1)")

    def test_numbers_of_more_than_one_figure(self):
        outs = [(("row", k + 1),) for k in range(120)] + [(("fn", 10, 100), ("rec", (("x", 99),)), ("tag", "t", 12))]
        ins = [(("row", k),) for k in range(10)] + [(("call", 119, 10), ("take", (("x", 10),)), ("case", (("x", 10),)))]
        rows = [f"+{k} (row +{k + 1})" for k in range(120)]
        rows.append("+120 (fn -10 +100) (rec x +99) (tag t +12)")
        rows += [f"-{k} (row -{k})" for k in range(10)]
        rows.append("-10 (call +119 -10) (take x -10) (case x -10) (to +9 +10 +100 +120)")
        self.shown(outs, ins, [(10, 9), (10, 10), (10, 100), (10, 120)], "\n".join(rows))

    def test_a_paper_that_is_not_orderly(self):
        self.shown(
            [(("row", 2),), (("fn", 1, 0),), (NUM,)], [(("call", 1, 1),), ()], [(0, 2), (1, 0)],
            "+0 (row +2)\n+1 (fn -1 +0)\n+2 num\n-0 (call +1 -1) (to +2)\n-1 (to +0)")

    def test_words_that_stand_elsewhere_too(self):
        self.shown(
            [(("rec", (("any", 0), ("num", 0))), ("tag", "to", 0))],
            [(("take", (("to", 0),)), ("case", (("take", 0),)))], [(0, 0)],
            "+0 (rec any +0 num +0) (tag to +0)\n-0 (take to -0) (case take -0) (to +0)")

    def test_more_outs_and_ins_than_the_bounds(self):
        found = shown_paper(Paper([()] * 1200, [()] * 1100, [(1099, 1199)])).split("\n")
        self.assertEqual(len(found), 2300)
        self.assertEqual([found[1199], found[1200], found[2299]], ["+1199", "-0", "-1099 (to +1199)"])


class ReadTest(unittest.TestCase):
    maxDiff = None

    def read(self, text, outs, ins=(), flows=()):
        with self.subTest(text):
            found = read_paper(text)
            self.assertIs(type(found), Paper)
            self.assertEqual(fields(found), (list(outs), list(ins), list(flows)))
            for one in fields(found):
                self.assertIs(type(one), list)
            for one in found.outs + found.ins + found.flows:
                self.assertIs(type(one), tuple)
            self.assertEqual(words_of(shown_paper(found)), words_of(text))

    def test_an_out_alone(self):
        self.read("+0", [()])
        self.read("+0 num", [(NUM,)])
        self.read("+0 any num (rec)", [(ANY, NUM, ("rec", ()))])
        self.read("+0 (row +0)", [(("row", 0),)])

    def test_each_making_and_each_use(self):
        self.read(FULL_TEXT, *fields(FULL))

    def test_more_blanks_and_line_feeds(self):
        for text in (
            FULL_TEXT.replace(" ", "  "), FULL_TEXT.replace("\n", "\n\n"), FULL_TEXT.replace(" ", "\n"),
            FULL_TEXT.replace("(", " ( ").replace(")", " ) "), FULL_TEXT.replace("(", "(\n").replace(")", "\n \n)"),
            " \n" + FULL_TEXT + "\n ", "\n" + FULL_TEXT,
        ):
            self.read(text, *fields(FULL))

    def test_all_words_on_one_row(self):
        self.read(FULL_TEXT.replace("\n", " "), *fields(FULL))
        self.read("+0 (fn -0 +1) +1 -0 (to +1)", [(("fn", 0, 1),), ()], [()], [(0, 1)])

    def test_no_blanks_beside_brackets(self):
        self.read(FULL_TEXT.replace(" (", "(").replace(") ", ")"), *fields(FULL))
        self.read("+0(row +1)+1(rec)num", [(("row", 1),), (("rec", ()), NUM)])

    def test_words_as_names_of_fields_and_tags(self):
        for word in ("num", "any", "take", "to", "a", "z9", "a12345678901"):
            self.read(
                f"+0 (rec {word} +0) (tag {word} +0) (fn -0 +0)\n-0 (take {word} -0) (case {word} -0) (to +0)",
                [(("rec", ((word, 0),)), ("tag", word, 0), ("fn", 0, 0))],
                [(("take", ((word, 0),)), ("case", ((word, 0),)))], [(0, 0)])

    def test_fields_sorted_as_ascii_goes(self):
        self.read(
            "+0 (rec a +0 a0 +0 a9 +0 aa +0 ab +0 b +0 b1 +0)",
            [(("rec", (("a", 0), ("a0", 0), ("a9", 0), ("aa", 0), ("ab", 0), ("b", 0), ("b1", 0))),)])

    def test_numbers_of_more_than_one_figure(self):
        outs = [(("row", k + 1),) for k in range(130)] + [(("fn", 0, 130),)]
        ins = [(("row", k + 1),) for k in range(110)] + [(("call", 100, 10),)]
        paper = Paper(outs, ins, [(9, 9), (9, 10), (9, 99), (9, 130), (110, 130)])
        self.read(shown_paper(paper), *fields(paper))

    def test_flows_of_more_ins_than_there_are_outs(self):
        self.read(
            "+0 (fn -0 +0)\n-0 (row -1) (to +0)\n-1 (row -2)\n-2 (to +0)",
            [(("fn", 0, 0),)], [(("row", 1),), (("row", 2),), ()], [(0, 0), (2, 0)])

    def test_what_was_shown_is_read_again(self):
        for paper in papers_of_programs():
            self.read(shown_paper(paper), *fields(paper))

    def test_more_outs_and_ins_than_the_bounds(self):
        outs = [(("row", k + 1),) for k in range(1100)] + [(("fn", 0, 0),)]
        ins = [(("row", k + 1),) for k in range(1100)] + [()]
        paper = Paper(outs, ins, [])
        self.read(shown_paper(paper), *fields(paper))


class RefusedTest(unittest.TestCase):
    def refused(self, *texts):
        for text in texts:
            with self.subTest(text):
                for taken in (BadPaper, FlowError, ValueError):
                    with self.assertRaises(taken) as caught:
                        read_paper(text)
                    self.assertIs(type(caught.exception), BadPaper)

    def test_nothing(self):
        self.refused("", " ", "\n", " \n\n ")

    def test_no_number_ahead(self):
        self.refused(
            "num", "any", "(rec)", "(row +0)", "(", ")", "()", "to", "(to +0)", "x", "0", "+", "-", "+-0", "num +0")

    def test_a_tab(self):
        self.refused(
            "+0\tnum", "+0 (rec\t)", "\t+0", "+0\t", "+0 num\t", "+0 num \t", "+0 (row\t+0)", "+0\t+1", "+0 \t num")

    def test_a_bracket_too_few(self):
        self.refused(
            "+0 (row +0", "+0 row +0)", "+0 (rec", "+0 rec", "+0 rec)", "+0 (fn -0 +0\n-0", "+0 row +0",
            "+0 (fn -0 +0)\n-0 (to +0", "+0 (fn -0 +0)\n-0 to +0", "+0 (fn -0 +0)\n-0 take")

    def test_a_bracket_too_many(self):
        self.refused(
            "+0 (row +0))", "+0 ((row +0)", "+0 ((row +0))", "(+0)", "(+0) num", "(+0 num)", "+0 (num)", "+0 (any)",
            "+0 ()", "+0 num ()", "+0 )", "+0 (", "+0 )(", "+0 (row (+0))", "+0 (rec x (+0))", "+0 (rec (x) +0)",
            "+0 (rec (x +0))", "(+0 (rec))", "+0 (rec ())", "+0 (fn -0 +0)\n-0 ((to +0))", "+0 (fn -0 +0)\n-0 (num)",
            "+0 (fn -0 +0)\n-0 ()", "+0 (fn -0 +0)\n(-0)", "+0 (row +1)\n(+1)", "() +0", "+0 (rec)()")

    def test_noughts_ahead_of_a_number(self):
        self.refused(
            "+00", "+00 num", "+0 (row +00)", "+0 (row +01)\n+1", "+0 (row +1)\n+01", "+0 (fn -00 +0)\n-0",
            "+0 (fn -0 +0)\n-00", "+0 (fn -0 +0)\n-0 (to +00)", "+0 (rec x +00)", "+0 (tag x +00)")

    def test_what_is_no_number(self):
        self.refused(
            "+x", "+", "+0x", "+1x num", "+0 (row x)", "+0 (row +)", "+0 (row 0)", "+0 (row +x)", "+0 (row ++0)",
            "+0 (row +-0)", "+0 (row +0.)", "+0 (rec x 0)", "+0 (fn 0 0)\n-0", "+0 (fn -0 +0)\n-", "+0 (tag t t)",
            "+0 (fn -0 +0)\n-0 (to 0)", "+0 (fn -0 +0)\n-0 (to x)", "++0", "+0 +", "+0 -")

    def test_numbers_that_no_out_or_in_has(self):
        self.refused(
            "+0 (row +1)", "+0 (rec x +1)", "+0 (tag t +2)", "+0 (fn -0 +0)", "+0 (fn -1 +0)\n-0", "+0 (fn -0 +1)\n-0",
            "+0 (fn -0 +0)\n-0 (row -1)", "+0 (fn -0 +0)\n-0 (take x -1)", "+0 (fn -0 +0)\n-0 (case x -1)",
            "+0 (fn -0 +0)\n-0 (call +1 -0)", "+0 (fn -0 +0)\n-0 (call +0 -1)", "+0 (fn -0 +0)\n-0 (to +1)",
            "+0 (fn -0 +0)\n-0 (to +0 +1)", "+0 (row +1)\n+1 (row +2)", "+0 (row +" + "9" * 61 + ")",
            "+0 (row +" + "9" * 5000 + ")", "+" + "1" * 5000)

    def test_a_number_of_the_other_side(self):
        self.refused(
            "+0 (row -0)", "+0 (row -0)\n-0", "+0 (rec x -0)\n-0", "+0 (tag t -0)\n-0", "+0 (fn +0 -0)\n-0",
            "+0 (fn +0 +0)", "+0 (fn -0 -0)\n-0", "+0 (fn -0 +0)\n-0 (row +0)", "+0 (fn -0 +0)\n-0 (take x +0)",
            "+0 (fn -0 +0)\n-0 (case x +0)", "+0 (fn -0 +0)\n-0 (call -0 +0)", "+0 (fn -0 +0)\n-0 (call +0 +0)",
            "+0 (fn -0 +0)\n-0 (call -0 -0)", "+0 (fn -0 +0)\n-0 (to -0)")

    def test_what_is_not_come_to(self):
        self.refused(
            "+0\n+1", "+0 num\n+1 (row +0)", "+0 (row +0)\n+1 (row +1)", "+0\n-0", "+0 num\n-0 num", "+0\n-0 (row -0)",
            "+0\n+1 (fn -0 +0)\n-0", "+0\n-0 (to +0)", "+0 (fn -0 +0)\n-0\n-1", "+0 (fn -0 +0)\n-0\n-1 (row -0)",
            "+0 (fn -0 +0)\n+1\n-0 (to +1)", "+0 (fn -0 +0)\n-0\n-1 (call +0 -1)", "+0 (row +1)\n+1\n+2 (row +2)")

    def test_rows_out_of_order(self):
        self.refused(
            "+1", "+1 num", "+0\n+0", "+1\n+0 (row +1)", "+0 (row +2)\n+2", "+0 (row +1)\n+2", "+0 (fn -1 +0)\n-1",
            "+0 (fn -0 +0)\n-1", "+0 (fn -0 +0)\n-0\n-0", "+0 (row +1)\n+1 num\n+1 num", "+0 (row +1)\n+0")

    def test_numbered_otherwise_than_by_coming_to_them(self):
        self.refused(
            "+0 (rec x +2 y +1)\n+1\n+2", "+0 (row +2) (tag t +1)\n+1\n+2", "+0 (fn -1 +0) (fn -0 +0)\n-0\n-1",
            "+0 (fn -0 +0)\n-0 (take x -2 y -1)\n-1\n-2", "+0 (fn -0 +2)\n+1\n+2\n-0 (call +1 -0)",
            "+0 (fn -0 +1)\n+1 (fn -1 +0)\n-0 (row -2)\n-1\n-2",
            "+0 (rec x +1 y +3)\n+1 (row +2)\n+2\n+3", "+0 (row +1)\n+1 (rec x +3 y +2)\n+2\n+3")
        self.assertEqual(len(read_paper("+0 (rec x +1 y +2)\n+1 (row +3)\n+2\n+3").outs), 4)
        self.assertEqual(len(read_paper("+0 (fn -0 +1)\n+1 (fn -2 +0)\n-0 (row -1)\n-1\n-2").ins), 3)

    def test_a_making_twice(self):
        self.refused(
            "+0 num num", "+0 any num any", "+0 (rec) (rec)", "+0 (row +0) num (row +0)", "+0 (tag t +0) (tag t +0)",
            "+0 (rec x +0) (rec x +0)", "+0 (fn -0 +0) (fn -0 +0)\n-0", "+0 (row +1)\n+1 num num")

    def test_a_use_twice(self):
        self.refused(*[f"+0 (fn -0 +0)\n-0 {use}" for use in (
            "num num", "(take) num (take)", "(case) (case)", "(row -0) (row -0)", "(call +0 -0) num (call +0 -0)",
            "(take x -0) (take x -0)", "(case x -0) (case x -0)")])

    def test_fields_and_arms_not_sorted(self):
        for names in (
            "b +0 a +0", "a +0 c +0 b +0", "aa +0 a +0", "a1 +0 a +0", "aa +0 a1 +0", "b +0 a1 +0", "b +0 aa +0",
        ):
            self.refused(f"+0 (rec {names})")
            names = names.replace("+", "-")
            self.refused(f"+0 (fn -0 +0)\n-0 (take {names})", f"+0 (fn -0 +0)\n-0 (case {names})")

    def test_fields_and_arms_with_a_word_twice(self):
        for names in ("a +0 a +0", "a +0 b +0 b +0", "a +0 b +0 a +0"):
            self.refused(f"+0 (rec {names})")
            names = names.replace("+", "-")
            self.refused(f"+0 (fn -0 +0)\n-0 (take {names})", f"+0 (fn -0 +0)\n-0 (case {names})")
        self.refused("+0 (rec a +1 a +2)\n+1\n+2 num")

    def test_a_word_that_is_no_name(self):
        for word in (
            "def", "fn", "call", "let", "rec", "get", "tag", "case", "row", "at", "join", "size", "add", "sub", "less",
            "X", "aB", "1", "1a", "a-b", "a.", "+0", "-0", "a123456789012", "a_b", "\ta", "a\t",
        ):
            self.refused(
                f"+0 (rec {word} +0)", f"+0 (tag {word} +0)", f"+0 (fn -0 +0)\n-0 (take {word} -0)",
                f"+0 (fn -0 +0)\n-0 (case {word} -0)", f"+0 (rec a +0 {word} +0)")

    def test_parts_too_few_or_too_many(self):
        self.refused(
            "+0 (row)", "+0 (row +0 +0)", "+0 (rec x)", "+0 (rec +0)", "+0 (rec x y)", "+0 (rec x +0 y)", "+0 (tag t)",
            "+0 (rec x +0 +0)", "+0 (tag +0)", "+0 (tag)", "+0 (tag t +0 +0)", "+0 (tag t s +0)", "+0 (fn)",
            "+0 (fn -0)\n-0", "+0 (fn +0)", "+0 (fn -0 +0 +0)\n-0", "+0 (num num)", "+0 (any +0)", "+0 (num +0)")
        self.refused(*[f"+0 (fn -0 +0)\n-0 {use}" for use in (
            "(row)", "(row -0 -0)", "(take x)", "(take -0)", "(take x -0 y)", "(case x)", "(case x -0 -0)", "(call)",
            "(call +0)", "(call -0)", "(call +0 -0 -0)", "(num -0)", "(to +0 x)", "(to x +0)")])

    def test_a_use_in_an_out(self):
        self.refused(
            "+0 (call +0 -0)", "+0 (call -0 +0)", "+0 (take)", "+0 (take x +0)", "+0 (case)", "+0 (case x +0)",
            "+0 (fn -0 +0) (call +0 -0)\n-0", "+0 (fn -0 +0) (take x -0)\n-0", "+0 (fn -0 +0) (row -0)\n-0",
            "+0 (to +0)", "+0 num (to +0)", "+0 (to)")

    def test_a_making_in_an_in(self):
        self.refused(*[f"+0 (fn -0 +0)\n-0 {making}" for making in (
            "any", "(rec)", "(rec x -0)", "(rec x +0)", "(tag t -0)", "(tag t +0)", "(row +0)", "(fn -0 +0)",
            "(fn +0 -0)", "num any")])

    def test_words_that_begin_nothing(self):
        self.refused(
            "+0 x", "+0 (x)", "+0 (x +0)", "+0 rec", "+0 numb", "+0 NUM", "+0 0", "+0 (def x +0)", "+0 (choice)",
            "+0 (fn -0 +0)\n-0 x", "+0 (fn -0 +0)\n-0 (into +0)", "+0 (fn -0 +0)\n-0 0", "+0 to")

    def test_outs_behind_to(self):
        text = "+0 (fn -0 +1)\n+1 (row +2)\n+2 any\n-0 num "
        for flows in (
            "(to +1 +0)", "(to +0 +2 +1)", "(to +2 +1)", "(to +0 +0)", "(to +1 +2 +2)", "(to)", "(to +0) (to +1)",
            "(to +0) (to +0)", "(to) (to +1)", "(to +0) (row -0)", "(to +0) (take)", "to", "to +0",
        ):
            self.refused(text + flows)
        self.refused(text.replace("num ", "(to +0) num"), text.replace("num ", "(to +0)\n-0 num"))
        self.assertEqual(read_paper(text + "(to +0 +1 +2)").flows, [(0, 0), (0, 1), (0, 2)])
        outs = "\n".join(f"+{k} (row +{k + 1})" for k in range(10))
        self.refused(f"{outs}\n+10 (fn -0 +0)\n-0 (to +10 +9)")
        self.assertEqual(read_paper(f"{outs}\n+10 (fn -0 +0)\n-0 (to +9 +10)").flows, [(0, 9), (0, 10)])

    def test_an_in_ahead_of_an_out(self):
        self.refused("-0\n+0 (fn -0 +0)", "+0 (fn -0 +1)\n-0\n+1", "+0 (fn -0 +1)\n-0 (to +1)\n+1 num", "-0", "-0 num")

    def test_words_behind_all_rows(self):
        self.refused(*[FULL_TEXT + behind for behind in (
            "\nx", "\n)", "\n(", "\n()", "\nnum", "\n+5", "\n+0", "\n-4", "\n-3", "\n0", "\n(to +0)", " .", "\n\t",
            "\n(rec)", "\n(to +1)")])

    def test_texts_that_go_wrong_somewhere(self):
        chance = random.Random(1)
        words = words_of(FULL_TEXT)
        others = sorted(set(words)) + ["x", "0", "\t", "def", "+9", "-9", "+00"]
        for _ in range(1500):
            changed = list(words)
            at = chance.randrange(len(words))
            way = chance.randrange(4)
            if way == 0:
                del changed[at]
            elif way == 1:
                changed.insert(at, chance.choice(others))
            elif way == 2:
                changed[at] = chance.choice(others)
            else:
                other = chance.randrange(len(words))
                changed[at], changed[other] = changed[other], changed[at]
            text = " ".join(changed)
            with self.subTest(text):
                try:
                    found = read_paper(text)
                except BadPaper:
                    continue
                self.assertEqual(words_of(shown_paper(found)), words_of(text))
                self.assertTrue(is_orderly(found))


class OwnTest(unittest.TestCase):
    def test_what_is_told_is_the_askers_own(self):
        for text in (FULL_TEXT, "+0"):
            one, other = read_paper(text), read_paper(text)
            lists = list(fields(one)) + list(fields(other))
            self.assertEqual(len({id(part) for part in lists}), 6)
            before = copy.deepcopy(fields(other))
            for part in fields(one):
                part.append(7)
            self.assertEqual(fields(other), before)
            self.assertEqual(fields(read_paper(text)), before)

    def test_a_paper_is_shown_as_it_is_now(self):
        paper = read_paper("+0 (row +1)\n+1")
        self.assertEqual(shown_paper(paper), "+0 (row +1)\n+1")
        paper.outs[1] = (NUM,)
        self.assertEqual(shown_paper(paper), "+0 (row +1)\n+1 num")

    def test_the_interface(self):
        self.assertEqual(str(inspect.signature(notes.shown_paper)), "(paper)")
        self.assertEqual(str(inspect.signature(notes.read_paper)), "(text)")


if __name__ == "__main__":
    unittest.main()
