"""[17] and [18]: papers, and papers pasted on boards."""

import copy
import inspect
import unittest

from flowkinds.boards import Board, CallUse, CaseUse, Make, NumUse, RowUse, TakeUse
from flowkinds.papers import Paper, pasted

# Every making and every use, with several outs and ins in each part.
OUTS = [
    (("num",), ("any",), ("fn", 2, 1), ("rec", (("x", 3), ("y", 1))), ("tag", "t", 2), ("row", 1)),
    (),
    (("rec", ()),),
    (("row", 3), ("fn", 0, 0)),
]
INS = [
    (("num",), ("call", 3, 2), ("take", (("x", 1), ("y", 2))), ("case", (("s", 0), ("t", 1))), ("row", 1)),
    (),
    (("take", ()), ("case", ()), ("call", 0, 0)),
]
FLOWS = [(0, 1), (0, 3), (2, 0)]

USES = {"num": NumUse, "call": CallUse, "take": TakeUse, "case": CaseUse, "row": RowUse}


def full():
    return Paper(list(OUTS), list(INS), list(FLOWS))


# What FULL brings to a board on which its out 0 becomes the point first.
def full_makes(first, place):
    outs = [first, first + 1, first + 2, first + 3]
    ins = [first + 4, first + 5, first + 6]
    return [
        ("num", (), outs[0], place),
        ("any", (), outs[0], place),
        ("fn", (ins[2], outs[1]), outs[0], place),
        ("rec", (("x", outs[3]), ("y", outs[1])), outs[0], place),
        ("tag", ("t", outs[2]), outs[0], place),
        ("row", (outs[1],), outs[0], place),
        ("rec", (), outs[2], place),
        ("row", (outs[3],), outs[3], place),
        ("fn", (ins[0], outs[0]), outs[3], place),
    ]


def full_uses(first, place):
    outs = [first, first + 1, first + 2, first + 3]
    ins = [first + 4, first + 5, first + 6]
    return [
        ("num", ins[0], place, 0),
        ("call", ins[0], place, 0, outs[3], ins[2]),
        ("take", ins[0], place, 0, (("x", ins[1]), ("y", ins[2]))),
        ("case", ins[0], place, 0, (("s", ins[0]), ("t", ins[1]))),
        ("row", ins[0], place, 0, ins[1]),
        ("take", ins[2], place, 0, ()),
        ("case", ins[2], place, 0, ()),
        ("call", ins[2], place, 0, outs[0], ins[0]),
    ]


def full_flows(first):
    return [(first + 4, first + 1), (first + 4, first + 3), (first + 6, first)]


def told(board):
    return {
        "points": board.points,
        "makes": [one.told() for one in board.makes],
        "uses": [one.told() for one in board.uses],
        "flows": board.flows,
        "root": board.root,
    }


class PaperTest(unittest.TestCase):
    def test_it_holds_the_very_lists_it_is_made_of(self):
        outs, ins, flows = [(("num",),)], [()], [(0, 0)]
        paper = Paper(outs, ins, flows)
        self.assertIs(paper.outs, outs)
        self.assertIs(paper.ins, ins)
        self.assertIs(paper.flows, flows)

    def test_the_interface(self):
        self.assertEqual(list(inspect.signature(Paper).parameters), ["outs", "ins", "flows"])
        self.assertEqual(list(inspect.signature(pasted).parameters), ["board", "paper", "place"])


class PastedTest(unittest.TestCase):
    def test_every_making_and_every_use(self):
        board = Board()
        self.assertEqual(pasted(board, full(), 9), 0)
        self.assertEqual(told(board), {
            "points": [9] * 7, "makes": full_makes(0, 9), "uses": full_uses(0, 9), "flows": full_flows(0), "root": 0})

    def test_the_kinds_of_what_is_put_on(self):
        board = Board()
        pasted(board, full(), 9)
        for one in board.makes:
            self.assertIs(type(one), Make)
            self.assertIs(type(one.parts), tuple)
        for one in board.uses:
            self.assertIs(type(one), USES[one.told()[0]])
        for flow in board.flows:
            self.assertIs(type(flow), tuple)

    def test_each_making_alone(self):
        for making, shape, parts in (
            (("num",), "num", ()), (("any",), "any", ()), (("fn", 0, 1), "fn", (2, 1)), (("rec", ()), "rec", ()),
            (("rec", (("x", 1), ("y", 0))), "rec", (("x", 1), ("y", 0))), (("tag", "t", 1), "tag", ("t", 1)),
            (("row", 1), "row", (1,)),
        ):
            with self.subTest(making):
                board = Board()
                self.assertEqual(pasted(board, Paper([(making,), ()], [()], []), 3), 0)
                self.assertEqual(told(board), {
                    "points": [3, 3, 3], "makes": [(shape, parts, 0, 3)], "uses": [], "flows": [], "root": 0})

    def test_each_use_alone(self):
        for use, wanted in (
            (("num",), ("num", 3, 4, 0)), (("call", 1, 0), ("call", 3, 4, 0, 1, 2)),
            (("take", ()), ("take", 3, 4, 0, ())), (("take", (("x", 0), ("y", 1))), ("take", 3, 4, 0, (("x", 2), ("y", 3)))),
            (("case", ()), ("case", 3, 4, 0, ())), (("case", (("s", 1), ("t", 0))), ("case", 3, 4, 0, (("s", 3), ("t", 2)))),
            (("row", 0), ("row", 3, 4, 0, 2)),
        ):
            with self.subTest(use):
                board = Board()
                self.assertEqual(pasted(board, Paper([(), ()], [(), (use,)], []), 4), 0)
                self.assertEqual(told(board), {
                    "points": [4] * 4, "makes": [], "uses": [wanted], "flows": [], "root": 0})

    def test_outs_alone(self):
        board = Board()
        self.assertEqual(pasted(board, Paper([()], [], []), 2), 0)
        self.assertEqual(told(board), {"points": [2], "makes": [], "uses": [], "flows": [], "root": 0})
        paper = Paper([(("rec", (("x", 1), ("y", 2))),), (("num",),), (("row", 0),)], [], [])
        self.assertEqual(pasted(board, paper, 5), 1)
        self.assertEqual(told(board), {
            "points": [2, 5, 5, 5],
            "makes": [("rec", (("x", 2), ("y", 3)), 1, 5), ("num", (), 2, 5), ("row", (1,), 3, 5)],
            "uses": [], "flows": [], "root": 0})

    def test_twice_on_one_board(self):
        board = Board()
        paper = full()
        self.assertEqual(pasted(board, paper, 9), 0)
        self.assertEqual(pasted(board, paper, 8), 7)
        self.assertEqual(told(board), {
            "points": [9] * 7 + [8] * 7, "makes": full_makes(0, 9) + full_makes(7, 8),
            "uses": full_uses(0, 9) + full_uses(7, 8), "flows": full_flows(0) + full_flows(7), "root": 0})

    def test_two_papers_one_behind_the_other(self):
        board = Board()
        self.assertEqual(pasted(board, Paper([(("fn", 0, 0),)], [(("num",),)], [(0, 0)]), 1), 0)
        self.assertEqual(pasted(board, full(), 2), 2)
        self.assertEqual(told(board), {
            "points": [1, 1] + [2] * 7, "makes": [("fn", (1, 0), 0, 1)] + full_makes(2, 2),
            "uses": [("num", 1, 1, 0)] + full_uses(2, 2), "flows": [(1, 0)] + full_flows(2), "root": 0})

    def test_behind_what_is_there_and_the_root_stays(self):
        board = Board()
        for place in (5, 6, 7):
            board.point(place)
        board.make("num", (), 1, 6)
        board.use(NumUse(2, 7, 1))
        board.flow(1, 2)
        board.rooted(2)
        self.assertEqual(pasted(board, full(), 0), 3)
        self.assertEqual(told(board), {
            "points": [5, 6, 7] + [0] * 7, "makes": [("num", (), 1, 6)] + full_makes(3, 0),
            "uses": [("num", 2, 7, 1)] + full_uses(3, 0), "flows": [(1, 2)] + full_flows(3), "root": 2})

    def test_a_paper_that_is_not_orderly(self):
        board = Board()
        paper = Paper([(), (("tag", "t", 1), ("tag", "t", 1))], [(("row", 1),), ()], [(1, 1), (0, 0)])
        self.assertEqual(pasted(board, paper, 3), 0)
        self.assertEqual(told(board), {
            "points": [3] * 4, "makes": [("tag", ("t", 1), 1, 3)] * 2, "uses": [("row", 2, 3, 0, 3)],
            "flows": [(3, 1), (2, 0)], "root": 0})

    def test_a_paper_somewhat_beyond_the_bounds(self):
        board = Board()
        paper = Paper([(("row", number),) for number in range(1100)], [(("row", 1099),)] * 1100, [(1099, 1099)])
        self.assertEqual(pasted(board, paper, 1), 0)
        self.assertEqual(len(board.points), 2200)
        self.assertEqual(board.makes[1099].told(), ("row", (1099,), 1099, 1))
        self.assertEqual(board.uses[0].told(), ("row", 1100, 1, 0, 2199))
        self.assertEqual(board.flows, [(2199, 1099)])


class OwnTest(unittest.TestCase):
    def test_the_paper_stays(self):
        paper = full()
        before = copy.deepcopy(vars(paper))
        board = Board()
        pasted(board, paper, 9)
        self.assertEqual(vars(paper), before)
        board.flows.clear()
        board.makes.clear()
        board.flow(0, 0)
        self.assertEqual(vars(paper), before)

    def test_a_board_holds_when_the_paper_is_changed(self):
        paper = full()
        board = Board()
        pasted(board, paper, 9)
        before = copy.deepcopy(told(board))
        paper.outs.clear()
        paper.ins[0] = ()
        paper.flows.append((0, 0))
        self.assertEqual(told(board), before)

    def test_one_paper_on_two_boards(self):
        paper = full()
        one, other = Board(), Board()
        pasted(one, paper, 9)
        pasted(other, paper, 9)
        self.assertEqual(told(one), told(other))
        one.uses[0].at = 77
        one.makes[0].at = 77
        one.flows.clear()
        third = Board()
        pasted(third, paper, 9)
        self.assertEqual(told(other), told(third))


if __name__ == "__main__":
    unittest.main()
