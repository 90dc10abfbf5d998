"""[38], [39] and [40]: programs looked at, whole and apart."""

import copy
import inspect
import unittest

from drawn import drawn_programs
from flowkinds import looking
from flowkinds.boards import Board
from flowkinds.errors import BadText, FlowError, NoName, TooHeavy, Twice
from flowkinds.homes import homes_of
from flowkinds.laying import laid
from flowkinds.looking import Look, first_bad, look, look_apart, told_of, way_of
from flowkinds.notes import shown_paper
from flowkinds.papers import Paper
from flowkinds.polar import paper_of
from flowkinds.reading import Program, read
from flowkinds.settling import Log, settled
from flowkinds.shortening import short_of
from flowkinds.ways import arrivals, bad_meetings, meetings, way

LET_BY = """( def same ( fn x x ) )
( def twice ( fn f ( fn x ( call f ( call f x ) ) ) ) )
( def down ( fn n ( case ( less n 1 ) yes u n no v ( call down ( sub n 1 ) ) ) ) )
( def both ( rec a ( call ( call twice same ) 1 ) b ( call same ( row 1 2 ) ) ) )
( def last ( at ( get both b ) ( call down 9 ) ( call same 3 ) ) )"""

# Texts, and the number of the definition that is refused, or None.
PROGRAMS = (
    ("( def a 1 )", None),
    ("( def a ( size 1 ) )", 0),
    ("( def a ( size 1 ) ) ( def b ( size 2 ) )", 0),
    ("( def a ( size 1 ) ) ( def b 2 ) ( def c 3 )", 0),
    ("( def a 1 ) ( def b ( size 1 ) ) ( def c 3 )", 1),
    ("( def a 1 ) ( def b ( size a ) ) ( def c ( call b a ) )", 1),
    ("( def a 1 ) ( def b ( row ) ) ( def c ( size a ) )", 2),
    ("( def f ( fn x ( size x ) ) ) ( def a ( call f ( row ) ) ) ( def b ( call f a ) )", 2),
    ("( def f ( fn x ( fn y ( add y x ) ) ) ) ( def g ( call f 1 ) ) ( def a ( call g ( rec ) ) )", 2),
    ("( def f ( fn x ( call x x ) ) ) ( def a ( call f f ) )", None),
    ("( def f ( fn x ( call x x ) ) ) ( def a ( call f ( fn y ( add y 1 ) ) ) )", 1),
    (LET_BY, None),
    (LET_BY + " ( def more ( add last 1 ) )", None),
    (LET_BY + " ( def more ( size last ) )", 5),
    (LET_BY + " ( def more ( get both c ) ) ( def end 1 )", 5),
)

REFUSED = (
    ("", BadText, {}),
    ("( def a )", BadText, {}),
    ("( def a\t1 )", BadText, {}),
    ("( def a 01 )", BadText, {}),
    ("( def a 1 ) ( def a 1 )", Twice, {"word": "a"}),
    ("( def a ( rec x 1 x 2 ) )", Twice, {"word": "x"}),
    ("( def a ( case 1 t x x t y y ) )", Twice, {"word": "t"}),
    ("( def a a )", NoName, {"word": "a", "place": 0}),
    ("( def a 1 ) ( def b ( row a ( fn x y ) ) )", NoName, {"word": "y", "place": 4}),
    # A definition ahead that can't be let by is no matter of homes and weights.
    ("( def a ( size 1 ) ) ( def b c )", NoName, {"word": "c", "place": 2}),
    ("( def a ( row 1 1 1 1 ) ) ( def b ( row a a a a a a a a a ) )", BadText, {}),
    ("( def a ( row 1 1 1 1 1 1 1 1 ) ) ( def b ( row a a a a a a ) )", TooHeavy, {"word": "b"}),
    ("( def a ( size 1 ) ) ( def b ( row 1 1 1 1 1 1 1 ) ) ( def c ( row b b b b b b b ) )", TooHeavy, {"word": "c"}),
)


def told_board(board):
    return (
        board.points, [one.told() for one in board.makes], [one.told() for one in board.uses], board.flows, board.root)


def told_log(log):
    return (log.rows, log.bads)


def told_paper(paper):
    return (paper.outs, paper.ins, paper.flows)


def told_look(one):
    return (
        vars(one.program), one.homes, [told_board(board) for board in one.boards], [told_log(log) for log in one.logs],
        [told_paper(paper) for paper in one.papers], one.refused)


def lists_of(one):
    lists = [one.program.names, one.program.roots, one.program.rows, one.homes, one.boards, one.logs, one.papers]
    for board in one.boards:
        lists += [board.points, board.makes, board.uses, board.flows]
    for log in one.logs:
        lists += [log.rows, log.bads]
    for paper in one.papers:
        lists += [paper.outs, paper.ins, paper.flows]
    return lists


# Every list of it, changed; and every making and use.
def spoil(one):
    for board in one.boards:
        for thing in board.makes + board.uses:
            thing.at = thing.place = 99
    for each in reversed(lists_of(one)):
        each.append(99)
    one.refused = 99


class LookCase(unittest.TestCase):
    maxDiff = None

    # A Look as the words of [38] go, from what was laid.
    def told(self, found, text, apart):
        program = read(text)
        homes = homes_of(program)
        self.assertIs(type(found), Look)
        self.assertIs(type(found.program), Program)
        self.assertEqual((vars(found.program), found.homes), (vars(program), homes))
        papers = []
        for number, (board, log) in enumerate(zip(found.boards, found.logs, strict=True)):
            self.assertIs(type(board), Board)
            self.assertIs(type(log), Log)
            wanted = laid(program, homes, number, papers) if apart else laid(program, homes, number)
            self.assertEqual(told_board(board), told_board(wanted))
            self.assertEqual(told_log(log), told_log(settled(wanted)))
            if not log.bads:
                papers.append(short_of(paper_of(wanted, settled(wanted))[0])[0])
        self.assertEqual([told_paper(paper) for paper in found.papers], [told_paper(paper) for paper in papers])
        self.assertTrue(all(type(paper) is Paper for paper in found.papers))
        refused = [number for number, log in enumerate(found.logs) if log.bads]
        if refused:
            self.assertEqual((refused, len(found.papers)), ([len(found.logs) - 1], len(found.logs) - 1))
            self.assertEqual(found.refused, refused[0])
        else:
            self.assertIsNone(found.refused)
            self.assertEqual(len(found.logs), len(program.names))


class LookTest(LookCase):
    def test_which_one_is_refused(self):
        for text, refused in PROGRAMS:
            for asked in (look, look_apart):
                with self.subTest(text, asked=asked.__name__):
                    found = asked(text)
                    self.assertEqual(found.refused, refused)
                    taken = len(found.program.names) if refused is None else refused + 1
                    let_by = taken if refused is None else refused
                    self.assertEqual(
                        (len(found.boards), len(found.logs), len(found.papers)), (taken, taken, let_by))

    def test_as_the_words_go(self):
        for text, _ in PROGRAMS:
            with self.subTest(text):
                self.told(look(text), text, False)
                self.told(look_apart(text), text, True)

    def test_drawn_ones(self):
        for slip in (0, 0.1):
            for text, _ in drawn_programs(21, 60, slip):
                with self.subTest(text):
                    self.told(look(text), text, False)
                    self.told(look_apart(text), text, True)

    def test_one_that_is_let_by(self):
        found = look("( def f ( fn x ( rec a x b ( row x x ) ) ) ) ( def g ( get ( call f 1 ) b ) )")
        self.assertEqual(found.program.names, ["f", "g"])
        self.assertEqual(found.homes, [None, None, ("fn", 1), None, ("fn", 1), ("fn", 1), None, None, ("def", 0), None])
        self.assertEqual(found.boards[1].points, [6, 6, 7, 8, 0, 0, 0, 1, 2, 3, 3, 4, 5, 9])
        self.assertEqual([log.bads for log in found.logs], [[], []])
        # Shorter than what paper_of tells: the field a and the row's things are one out.
        self.assertEqual(shown_paper(found.papers[0]), "+0 (fn -0 +1)\n+1 (rec a +2 b +3)\n+2\n+3 (row +2)\n-0 (to +2)")
        self.assertEqual(shown_paper(found.papers[1]), "+0 (row +1)\n+1 num")

    def test_one_that_is_refused(self):
        found = look("( def a ( let x 1 ( size x ) ) )")
        self.assertEqual(found.boards[0].points, [0, 0, 1, 2, 2, 3, 1])
        self.assertEqual(found.logs[0].bads, [(6, 0)])
        self.assertEqual((found.papers, found.refused), ([], 0))

    # What a later one makes of an earlier one, each time anew.
    def test_a_definition_has_kinds_of_its_own_each_time(self):
        text = "( def same ( fn x x ) ) ( def a ( rec n ( add 1 ( call same 2 ) ) r ( size ( call same ( row ) ) ) ) )"
        self.assertIsNone(look(text).refused)
        self.assertIsNone(look_apart(text).refused)
        text = "( def f ( fn g ( rec n ( add 1 ( call g 2 ) ) r ( size ( call g ( row ) ) ) ) ) ) "
        self.assertIsNone(look(text).refused)
        self.assertEqual(look(text + "( def a ( call f ( fn x x ) ) )").refused, 1)
        self.assertEqual(look_apart(text + "( def a ( call f ( fn x x ) ) )").refused, 1)

    # Places are those of the names, where papers are pasted.
    def test_apart_the_papers_of_those_ahead_are_pasted(self):
        text = "( def a ( size ( row 1 2 3 ) ) ) ( def b ( row a a ) ) ( def c ( rec x a y b ) )"
        found = look_apart(text)
        self.assertEqual(found.boards[1].points, [5, 5, 5, 6, 6, 7, 7])
        self.assertEqual(found.boards[2].points, [8, 8, 9, 9, 10, 10, 10])
        self.assertEqual(
            [one.told() for one in found.boards[2].makes],
            [("num", (), 3, 9), ("row", (6,), 5, 10), ("num", (), 6, 10), ("rec", (("x", 2), ("y", 4)), 1, 8)])
        whole = look(text)
        self.assertEqual(whole.boards[1].points, [5, 5, 5, 6, 0, 0, 0, 1, 1, 2, 3, 4, 7, 0, 0, 0, 1, 1, 2, 3, 4])
        self.assertEqual(
            [shown_paper(paper) for paper in found.papers], [shown_paper(paper) for paper in whole.papers])

    # The short ones, so apart the boards stay small.
    def test_apart_the_papers_are_the_short_ones(self):
        text = "( def a ( fn x ( rec a x b ( row x x ) ) ) ) ( def b a )"
        self.assertEqual(look_apart(text).boards[1].points, [6, 6] + [6] * 5)

    def test_the_first_is_the_same_both_ways(self):
        for text, _ in PROGRAMS:
            self.assertEqual(told_board(look(text).boards[0]), told_board(look_apart(text).boards[0]))


class RefusalTest(unittest.TestCase):
    def test_each(self):
        for text, refusal, fields in REFUSED:
            for asked in (look, look_apart, told_of):
                for taken in (refusal, FlowError, ValueError):
                    with self.subTest(text, asked=asked.__name__):
                        with self.assertRaises(taken) as caught:
                            asked(text)
                        self.assertIs(type(caught.exception), refusal)
                        self.assertEqual({word: getattr(caught.exception, word) for word in fields}, fields)


class ToldOfTest(unittest.TestCase):
    maxDiff = None

    def test_by_hand(self):
        self.assertEqual(told_of("( def a 1 )"), ([], [], [(0, 0)]))
        self.assertEqual(told_of("( def a ( size 1 ) )"), ([(1, 0, 0)], [(1, 0, 0)], [(0, 0), (1, 1)]))
        self.assertEqual(
            told_of("( def a ( add 1 ( row ) ) )"),
            ([(1, 0, 0), (2, 0, 1)], [(2, 0, 1)], [(0, 0), (1, 1), (2, 2)]))

    # Place 1 is the size in f and place 2 its x; 3, 6 and 9 are the three calls.
    def test_some_are_not_let_by(self):
        text = (
            "( def f ( fn x ( size x ) ) ) ( def a ( call f 7 ) ) ( def b ( call f ( row ) ) ) "
            "( def c ( call b ( row ) ) )")
        self.assertEqual(told_of(text), (
            [(0, 3, 0), (0, 6, 0), (1, 9, 0), (5, 1, 0), (8, 1, 0)],
            [(1, 9, 0), (5, 1, 0)],
            [
                (0, 0), (0, 5), (0, 8), (1, 1), (2, 5), (2, 8), (3, 1), (4, 0), (5, 5), (6, 1), (7, 0), (8, 8),
                (10, 1), (11, 11)]))

    def test_all_boards_together(self):
        for text, _ in PROGRAMS + tuple(drawn_programs(22, 60, 0.1)):
            with self.subTest(text):
                program = read(text)
                homes = homes_of(program)
                wanted = (set(), set(), set())
                for number in range(len(program.names)):
                    board = laid(program, homes, number)
                    log = settled(board)
                    wanted[0].update(meetings(board, log))
                    wanted[1].update(bad_meetings(board, log))
                    wanted[2].update(arrivals(board, log))
                found = told_of(text)
                self.assertIs(type(found), tuple)
                self.assertEqual(found, tuple(sorted(each) for each in wanted))

    def test_bads_are_there_just_where_one_is_refused(self):
        for text, refused in PROGRAMS:
            self.assertEqual(told_of(text)[1] == [], refused is None)


class FirstBadTest(LookCase):
    def test_by_hand(self):
        found = look("( def a ( let x 1 ( size x ) ) )")
        self.assertEqual(first_bad(found), (1, 2, 0))
        self.assertEqual(
            way_of(found), [("goes", 6, 5, None), ("here", 1, 6, None), ("here", 1, 5, (1, 0))])

    # The second use of a later definition; the row that can't be has why None.
    def test_a_later_one(self):
        found = look("( def a 1 ) ( def b ( sub 1 ( row ) ) )")
        self.assertEqual(first_bad(found), (3, 1, 1))
        self.assertEqual(way_of(found), [("here", 1, 3, None)])

    def test_through_a_call(self):
        found = look("( def a ( call ( fn x ( size x ) ) 7 ) )")
        self.assertEqual(first_bad(found), (4, 2, 0))
        # Points: 0 and 1 the call, 2 the fn, 3 its argument, 4 the size, 5 its things, 6 the x, 7 the 7.
        self.assertEqual(way_of(found), [
            ("goes", 3, 6, None), ("here", 1, 2, None), ("here", 2, 7, None), ("goes", 7, 3, (1, 1)),
            ("here", 2, 3, (2, 3)), ("here", 2, 6, (4, 0))])

    def test_apart_the_making_has_the_names_place(self):
        text = "( def a ( row ) ) ( def b ( add 1 a ) )"
        self.assertEqual(first_bad(look(text)), (0, 1, 1))
        self.assertEqual(first_bad(look_apart(text)), (3, 1, 1))

    def test_the_first_of_several(self):
        found = look("( def a ( rec x ( size 1 ) y ( add ( row ) ( row ) ) ) )")
        self.assertEqual(len(found.logs[0].bads), 3)
        self.assertEqual(first_bad(found), (2, 1, 0))

    def test_none(self):
        for text in ("( def a 1 )", LET_BY):
            for asked in (look, look_apart):
                found = asked(text)
                self.assertIsNone(first_bad(found))
                self.assertEqual(way_of(found), [])

    def test_as_the_words_go(self):
        for text, _ in PROGRAMS + tuple(drawn_programs(23, 60, 0.1)):
            for asked in (look, look_apart):
                found = asked(text)
                if found.refused is not None:
                    board, log = found.boards[-1], found.logs[-1]
                    row, use = log.bads[0]
                    make = board.makes[log.rows[row][1]]
                    wanted = (make.place, board.uses[use].place, board.uses[use].slot)
                    self.assertEqual(first_bad(found), wanted)
                    self.assertIs(type(first_bad(found)), tuple)
                    self.assertEqual(way_of(found), way(log, row))
                    self.assertIn(wanted, bad_meetings(board, log))

    def test_of_a_look_made_of_another_ones_things(self):
        for text, _ in PROGRAMS:
            one = look(text)
            other = Look(one.program, one.homes, one.boards, one.logs, one.papers, one.refused)
            self.assertEqual((first_bad(other), way_of(other)), (first_bad(one), way_of(one)))

    def test_it_is_the_refused_definitions(self):
        one = look("( def a ( size 1 ) )")
        other = look("( def a 1 ) ( def b ( add ( row ) 1 ) )")
        made = Look(
            other.program, other.homes, [one.boards[0], other.boards[1]], [one.logs[0], other.logs[1]], other.papers, 1)
        self.assertEqual((first_bad(made), way_of(made)), ((2, 1, 0), [("here", 0, 2, None)]))
        made.refused = 0
        self.assertEqual((first_bad(made), way_of(made)), ((1, 0, 0), way_of(one)))


class OwnTest(unittest.TestCase):
    TEXTS = (LET_BY, LET_BY + " ( def more ( size ( call same last ) ) )")

    def test_no_two_lists_are_one(self):
        lists = []
        for text in self.TEXTS:
            for asked in (look, look_apart):
                one, other = asked(text), asked(text)
                lists += lists_of(one) + lists_of(other) + [way_of(one), way_of(one)]
            lists += list(told_of(text)) + list(told_of(text))
        self.assertEqual(len({id(each) for each in lists}), len(lists))

    def test_what_is_told_and_changed_changes_no_later_answer(self):
        for text in self.TEXTS:
            for asked in (look, look_apart):
                one, other = asked(text), asked(text)
                before = copy.deepcopy(told_look(other))
                bad, way_told = first_bad(other), way_of(other)
                spoil(one)
                self.assertEqual(told_look(other), before)
                self.assertEqual(told_look(asked(text)), before)
                self.assertEqual((first_bad(other), way_of(other)), (bad, way_told))

    def test_boards_of_one_look_are_apart(self):
        for asked in (look, look_apart):
            found = asked(LET_BY)
            before = [copy.deepcopy(told_board(board)) for board in found.boards[1:]]
            papers = copy.deepcopy([told_paper(paper) for paper in found.papers])
            spoil(Look(found.program, found.homes, found.boards[:1], found.logs[:1], [], None))
            self.assertEqual([told_board(board) for board in found.boards[1:]], before)
            self.assertEqual([told_paper(paper) for paper in found.papers], papers)

    def test_lists_told_and_changed(self):
        for text in self.TEXTS:
            before = copy.deepcopy(told_of(text))
            for each in told_of(text):
                each.clear()
            self.assertEqual(told_of(text), before)
            found = look(text)
            wanted = way_of(found)
            way_of(found).append(99)
            self.assertEqual(way_of(found), wanted)

    def test_a_look_that_is_handed_in_stays(self):
        for text in self.TEXTS:
            found = look(text)
            before = copy.deepcopy(told_look(found))
            first_bad(found)
            way_of(found).clear()
            self.assertEqual(told_look(found), before)

    def test_a_look_holds_what_it_is_made_of(self):
        things = [Program([], [], []), [], [], [], [], 3]
        made = Look(*things)
        for name, thing in zip(("program", "homes", "boards", "logs", "papers", "refused"), things):
            self.assertIs(getattr(made, name), thing)

    def test_the_interface(self):
        for name, wanted in (
            ("Look", "(program, homes, boards, logs, papers, refused)"), ("look", "(text)"), ("look_apart", "(text)"),
            ("told_of", "(text)"), ("first_bad", "(look)"), ("way_of", "(look)"),
        ):
            self.assertEqual(str(inspect.signature(vars(looking)[name])), wanted)


if __name__ == "__main__":
    unittest.main()
