"""[26] and [27]: papers made of settled boards."""

import copy
import inspect
import random
import unittest

from flowkinds.boards import Board, CallUse, CaseUse, NumUse, RowUse, TakeUse
from flowkinds.homes import homes_of
from flowkinds.laying import laid
from flowkinds.papers import Paper, pasted
from flowkinds.polar import paper_of
from flowkinds.reading import read
from flowkinds.settling import settled

PROGRAM = """( def twice ( fn f ( fn x ( call f ( call f x ) ) ) ) )
( def down ( fn n ( case ( less n 1 ) yes u n no v ( call down ( sub n 1 ) ) ) ) )
( def all ( let r ( rec a twice b ( row 1 ( tag t 2 ) ) )
( call ( call ( get r a ) down ) ( at ( join ( get r b ) ( row 3 ) ) 0 ( size 4 ) ) ) ) )"""


def board_of(points, makes=(), uses=(), flows=(), root=0):
    board = Board()
    for number in range(points):
        board.point(number + 20)
    for shape, parts, at in makes:
        board.make(shape, parts, at, 50)
    for use in uses:
        board.use(use)
    for p, q in flows:
        board.flow(p, q)
    board.rooted(root)
    return board


def board_laid(text, which):
    program = read(text)
    return laid(program, homes_of(program), which)


def some_board(seed, points, makes, uses, flows):
    chance = random.Random(seed)
    words = ["a", "b1", "ba", "b"]

    def point():
        return chance.randrange(points)

    def pairs():
        return tuple((word, point()) for word in chance.sample(words, chance.randrange(4)))

    board = Board()
    for _ in range(points):
        board.point(chance.randrange(12))
    board.rooted(point())
    for _ in range(makes):
        shape, parts = chance.choice([
            ("num", ()), ("any", ()), ("fn", (point(), point())), ("fn", (point(), point())), ("rec", pairs()),
            ("rec", pairs()), ("tag", (chance.choice(words), point())), ("row", (point(),))])
        board.make(shape, parts, point(), chance.randrange(12))
    for _ in range(uses):
        at, place, slot = point(), chance.randrange(12), chance.randrange(2)
        board.use(chance.choice([
            NumUse(at, place, slot), CallUse(at, place, slot, point(), point()), TakeUse(at, place, slot, pairs()),
            CaseUse(at, place, slot, pairs()), RowUse(at, place, slot, point())]))
    for _ in range(flows):
        board.flow(point(), point())
    return board


# The paper as the document's words go: numbers are given while the queue is
# walked, and reaching is asked of every pair of points.
class Wording:
    def __init__(self, board, log):
        self.board, self.log = board, log
        count = len(board.points)
        self.reaches = [[p == q or ("goes", p, q) in {row[:3] for row in log.rows} for q in range(count)]
                        for p in range(count)]
        for middle in range(count):
            for p in range(count):
                for q in range(count):
                    if self.reaches[p][middle] and self.reaches[middle][q]:
                        self.reaches[p][q] = True
        self.numbers = {"out": {}, "in": {}}
        self.queue = []
        self.number("out", board.root)
        self.things = {"out": [], "in": []}
        for side, point in self.queue:
            self.things[side].append(self.outs(point) if side == "out" else self.ins(point))
        self.flows = sorted(
            (i, o) for p, i in self.numbers["in"].items() for q, o in self.numbers["out"].items() if self.reaches[p][q])

    def number(self, side, point):
        if point not in self.numbers[side]:
            self.numbers[side][point] = len(self.numbers[side])
            self.queue.append((side, point))
        return self.numbers[side][point]

    def pairs(self, side, pairs):
        return tuple((word, self.number(side, point)) for word, point in sorted(pairs))

    def outs(self, point):
        found = []
        numbers = [m for word, m, p, _ in self.log.rows if (word, p) == ("here", point)]
        for make in [self.board.makes[m] for m in sorted(numbers)]:
            if make.shape == "fn":
                one = ("fn", self.number("in", make.parts[0]), self.number("out", make.parts[1]))
            elif make.shape == "rec":
                one = ("rec", self.pairs("out", make.parts))
            elif make.shape == "tag":
                one = ("tag", make.parts[0], self.number("out", make.parts[1]))
            elif make.shape == "row":
                one = ("row", self.number("out", make.parts[0]))
            else:
                one = (make.shape,)
            found += [one] if one not in found else []
        return tuple(found)

    def ins(self, point):
        found = []
        for use in [use for use in self.board.uses if self.reaches[point][use.at]]:
            if isinstance(use, CallUse):
                one = ("call", self.number("out", use.arg), self.number("in", use.out))
            elif isinstance(use, TakeUse):
                one = ("take", self.pairs("in", use.fields))
            elif isinstance(use, CaseUse):
                one = ("case", self.pairs("in", use.arms))
            elif isinstance(use, RowUse):
                one = ("row", self.number("in", use.out))
            else:
                one = ("num",)
            found += [one] if one not in found else []
        return tuple(found)


def told(board):
    return copy.deepcopy((
        board.points, [one.told() for one in board.makes], [one.told() for one in board.uses], board.flows, board.root))


class PolarCase(unittest.TestCase):
    maxDiff = None

    def paper(self, board, outs, ins=(), flows=(), out_points=(), in_points=()):
        log = settled(board)
        before = (told(board), copy.deepcopy(vars(log)))
        with self.subTest(before[0]):
            found = paper_of(board, log)
            self.assertIs(type(found), tuple)
            self.assertEqual(len(found), 3)
            self.assertIs(type(found[0]), Paper)
            self.assertEqual(found[0].outs, list(outs))
            self.assertEqual(found[0].ins, list(ins))
            self.assertEqual(found[0].flows, list(flows))
            self.assertEqual(found[1], list(out_points))
            self.assertEqual(found[2], list(in_points))
            for each in (found[0].outs, found[0].ins, found[0].flows, found[1], found[2]):
                self.assertIs(type(each), list)
            for each in found[0].outs + found[0].ins + found[0].flows:
                self.assertIs(type(each), tuple)
            self.assertEqual((told(board), vars(log)), before)

    def worded(self, board):
        wording = Wording(board, settled(board))
        self.paper(
            board, wording.things["out"], wording.things["in"], wording.flows,
            list(wording.numbers["out"]), list(wording.numbers["in"]))
        return wording


class RootTest(PolarCase):
    def test_out_0_stands_for_the_root(self):
        for root in range(3):
            self.paper(board_of(3, root=root), [()], out_points=[root])
        self.paper(board_of(3, [("num", (), 0), ("any", (), 1)], root=1), [(("any",),)], out_points=[1])

    def test_uses_at_the_root_and_elsewhere_are_not_come_to(self):
        self.paper(board_of(2, [("num", (), 0)], [NumUse(0, 9, 0), RowUse(1, 9, 0, 0)]), [(("num",),)], out_points=[0])

    def test_a_board_without_points(self):
        self.paper(Board(), [()], out_points=[0])

    def test_a_board_that_is_not_let_by(self):
        board = board_of(2, [("fn", (1, 0), 0)], [NumUse(0, 9, 0), NumUse(1, 9, 0)])
        self.paper(board, [(("fn", 0, 0),)], [(("num",),)], [], [0], [1])


class MakingsTest(PolarCase):
    def test_each_making(self):
        for shape, parts, wanted in (
            ("num", (), ("num",)), ("any", (), ("any",)), ("rec", (), ("rec", ())),
            ("rec", (("x", 0),), ("rec", (("x", 0),))), ("tag", ("t", 0), ("tag", "t", 0)), ("row", (0,), ("row", 0)),
        ):
            self.paper(board_of(1, [(shape, parts, 0)]), [(wanted,)], out_points=[0])
        for shape, parts, wanted in (
            ("rec", (("x", 2),), ("rec", (("x", 1),))), ("tag", ("t", 2), ("tag", "t", 1)), ("row", (2,), ("row", 1)),
        ):
            self.paper(
                board_of(3, [(shape, parts, 1), ("num", (), 2)], root=1), [(wanted,), (("num",),)], out_points=[1, 2])

    def test_a_fn_has_an_in_and_an_out(self):
        self.paper(
            board_of(3, [("fn", (2, 1), 0), ("num", (), 1), ("any", (), 2)], [NumUse(1, 9, 0), RowUse(2, 9, 0, 1)]),
            [(("fn", 0, 1),), (("num",),)], [(("row", 1),), (("num",),)], [(1, 1)], [0, 1], [2, 1])

    def test_makings_that_came_from_elsewhere(self):
        self.paper(
            board_of(4, [("num", (), 3), ("row", (1,), 2)], (), [(3, 1), (2, 0)]),
            [(("row", 1),), (("num",),)], out_points=[0, 1])

    # In the log the any is at the root first, the num comes later.
    def test_makings_by_their_numbers_in_the_board(self):
        self.paper(
            board_of(3, [("num", (), 2), ("row", (1,), 1), ("any", (), 0)], (), [(2, 1), (1, 0)]),
            [(("num",), ("row", 1), ("any",)), (("num",), ("row", 1))], out_points=[0, 1])

    def test_makings_that_come_by_meetings(self):
        self.paper(
            board_of(4, [("fn", (1, 2), 3), ("num", (), 2)], [CallUse(3, 9, 0, 1, 0)]), [(("num",),)], out_points=[0])

    def test_of_alike_makings_only_the_first(self):
        self.paper(
            board_of(3, [
                ("num", (), 0), ("row", (1,), 0), ("num", (), 0), ("row", (2,), 0), ("row", (1,), 0), ("fn", (1, 1), 0),
                ("fn", (1, 1), 0), ("tag", ("t", 1), 0), ("tag", ("s", 1), 0), ("tag", ("t", 1), 0), ("any", (), 0),
                ("any", (), 0)]),
            [(("num",), ("row", 1), ("row", 2), ("fn", 0, 1), ("tag", "t", 1), ("tag", "s", 1), ("any",)), (), ()],
            [()], [(0, 1)], [0, 1, 2], [1])

    def test_records_that_are_alike_once_their_fields_are_in_order(self):
        self.paper(
            board_of(3, [
                ("rec", (("y", 1), ("x", 2)), 0), ("rec", (("x", 2), ("y", 1)), 0), ("rec", (("x", 1), ("y", 2)), 0)]),
            [(("rec", (("x", 1), ("y", 2))), ("rec", (("x", 2), ("y", 1)))), (), ()], out_points=[0, 2, 1])

    def test_fields_in_the_order_of_their_words(self):
        words = ["b", "aa", "a", "ab1", "a9", "ab", "z", "a0", "b0a", "b00"]
        self.paper(
            board_of(11, [("rec", tuple((word, number + 1) for number, word in enumerate(words)), 0)]),
            [(("rec", (
                ("a", 1), ("a0", 2), ("a9", 3), ("aa", 4), ("ab", 5), ("ab1", 6), ("b", 7), ("b00", 8), ("b0a", 9),
                ("z", 10))),)] + [()] * 10,
            out_points=[0, 3, 8, 5, 2, 6, 4, 1, 10, 9, 7])


# In all of these the root is a fn whose argument is point 1 and whose answer is point 2.
class UsesTest(PolarCase):
    def uses(self, uses, wanted, flows=(), points=8, in_points=(1,), out_points=(0, 2), rest=(), paper_flows=()):
        self.paper(
            board_of(points, [("fn", (1, 2), 0)], uses, flows), [(("fn", 0, 1),)] + [()] * (len(out_points) - 1),
            [wanted] + list(rest), paper_flows, out_points, in_points)

    def test_none(self):
        self.uses([], ())
        self.uses([NumUse(2, 9, 0), NumUse(0, 9, 0)], ())

    def test_each_use(self):
        self.uses([NumUse(1, 9, 0)], (("num",),))
        self.uses([RowUse(1, 9, 0, 3)], (("row", 1),), in_points=[1, 3], rest=[()])
        self.uses([TakeUse(1, 9, 0, ())], (("take", ()),))
        self.uses([CaseUse(1, 9, 0, ())], (("case", ()),))
        self.uses([TakeUse(1, 9, 0, (("x", 3), ("y", 4)))], (("take", (("x", 1), ("y", 2))),), in_points=[1, 3, 4],
                  rest=[(), ()])
        self.uses([CaseUse(1, 9, 0, (("s", 3), ("t", 1)))], (("case", (("s", 1), ("t", 0))),), in_points=[1, 3],
                  rest=[()])
        self.uses([CallUse(1, 9, 0, 4, 3)], (("call", 2, 1),), in_points=[1, 3], out_points=[0, 2, 4], rest=[()])

    def test_a_calls_argument_has_an_out_with_its_makings(self):
        self.paper(
            board_of(5, [("fn", (1, 2), 0), ("num", (), 4)], [CallUse(1, 9, 0, 3, 2)], [(4, 3)]),
            [(("fn", 0, 1),), (), (("num",),)], [(("call", 2, 1),), ()], [(1, 1)], [0, 2, 3], [1, 2])

    def test_at_points_that_are_reached(self):
        self.uses([NumUse(3, 9, 0)], (("num",),), flows=[(1, 3)])
        self.uses([NumUse(4, 9, 0)], (("num",),), flows=[(3, 4), (1, 3)])
        self.uses([NumUse(7, 9, 0)], (("num",),), flows=[(6, 7), (5, 6), (4, 5), (3, 4), (1, 3)])
        self.uses([NumUse(3, 9, 0)], (("num",),), flows=[(3, 1), (1, 4), (4, 3)])

    def test_at_points_that_are_not_reached(self):
        self.uses([NumUse(3, 9, 0)], (), flows=[(3, 1)])
        self.uses([NumUse(3, 9, 0)], (), flows=[(1, 4), (3, 4)])

    def test_by_their_numbers_in_the_board(self):
        self.uses(
            [TakeUse(4, 9, 0, ()), CaseUse(7, 9, 0, ()), NumUse(1, 9, 0), RowUse(3, 9, 0, 1)],
            (("take", ()), ("num",), ("row", 0)), flows=[(1, 3), (3, 4)])

    def test_over_flows_of_meetings(self):
        self.paper(
            board_of(6, [("fn", (1, 2), 0), ("fn", (3, 4), 5)], [NumUse(3, 9, 0), CallUse(5, 9, 0, 1, 2)]),
            [(("fn", 0, 1),), ()], [(("num",),)], [], [0, 2], [1])

    def test_of_alike_uses_only_the_first(self):
        self.uses(
            [NumUse(1, 9, 0), RowUse(3, 9, 0, 3), NumUse(3, 7, 1), RowUse(1, 8, 1, 3), CallUse(1, 9, 0, 2, 1),
             CallUse(3, 9, 1, 2, 1)],
            (("num",), ("row", 1), ("call", 1, 0)), flows=[(1, 3)], in_points=[1, 3],
            rest=[(("row", 1), ("num",), ("call", 1, 0))])

    def test_takes_and_cases_that_are_alike_once_they_are_in_order(self):
        self.uses(
            [TakeUse(1, 9, 0, (("y", 3), ("x", 4))), TakeUse(1, 9, 0, (("x", 4), ("y", 3))),
             CaseUse(1, 9, 0, (("y", 3), ("x", 4))), CaseUse(1, 9, 0, (("x", 4), ("y", 3)))],
            (("take", (("x", 1), ("y", 2))), ("case", (("x", 1), ("y", 2)))), in_points=[1, 4, 3], rest=[(), ()])

    def test_fields_and_arms_in_the_order_of_their_words(self):
        pairs = (("b", 3), ("aa", 4), ("a", 5), ("a1", 6))
        wanted = (("a", 1), ("a1", 2), ("aa", 3), ("b", 4))
        self.uses([TakeUse(1, 9, 0, pairs)], (("take", wanted),), in_points=[1, 5, 6, 4, 3], rest=[()] * 4)
        self.uses([CaseUse(1, 9, 0, pairs)], (("case", wanted),), in_points=[1, 5, 6, 4, 3], rest=[()] * 4)


class NumbersTest(PolarCase):
    # Root 0: x is a fn of 3 to 4, y a fn of 5 to 6; what goes into 3 is called with 7, to 8, and what goes into 5
    # is a row of 9; out 4 is a row of 10.
    def test_outs_and_ins_by_one_queue(self):
        self.paper(
            board_of(
                11, [("rec", (("y", 2), ("x", 1)), 0), ("fn", (5, 6), 2), ("fn", (3, 4), 1), ("row", (10,), 4)],
                [RowUse(5, 9, 0, 9), CallUse(3, 9, 0, 7, 8)]),
            [(("rec", (("x", 1), ("y", 2))),), (("fn", 0, 3),), (("fn", 1, 4),), (("row", 6),), (), (), ()],
            [(("call", 5, 2),), (("row", 3),), (), ()], [], [0, 1, 2, 4, 6, 7, 10], [3, 5, 8, 9])

    def test_a_fns_in_ahead_of_its_out_and_a_calls_out_ahead_of_its_in(self):
        self.paper(
            board_of(
                6, [("fn", (1, 2), 0), ("row", (4,), 2)], [CallUse(1, 9, 0, 3, 5)]),
            [(("fn", 0, 1),), (("row", 3),), (), ()], [(("call", 2, 1),), ()], [], [0, 2, 3, 4], [1, 5])

    def test_a_point_with_an_out_and_an_in(self):
        self.paper(
            board_of(2, [("fn", (1, 1), 0), ("num", (), 1)], [NumUse(1, 9, 0)]),
            [(("fn", 0, 1),), (("num",),)], [(("num",),)], [(0, 1)], [0, 1], [1])
        self.paper(
            board_of(1, [("fn", (0, 0), 0)], [CallUse(0, 9, 0, 0, 0)]), [(("fn", 0, 0),)], [(("call", 0, 0),)],
            [(0, 0)], [0], [0])

    def test_what_is_named_again_keeps_its_number(self):
        self.paper(
            board_of(3, [("row", (1,), 0), ("tag", ("t", 1), 0), ("tag", ("s", 2), 1), ("fn", (2, 0), 2)]),
            [(("row", 1), ("tag", "t", 1)), (("tag", "s", 2),), (("fn", 0, 0),)], [()], [(0, 2)], [0, 1, 2], [2])


class FlowsTest(PolarCase):
    # Ins 1, 3, 5 and outs 0, 2, 4, 6: from 5 to 2 and from there to 4; from 1 over 7 to 6 and to 4.
    def test_sorted_and_over_any_number_of_steps(self):
        self.paper(
            board_of(
                9, [("fn", (1, 2), 0), ("fn", (3, 4), 2), ("fn", (5, 6), 4)], (),
                [(8, 6), (5, 2), (7, 6), (2, 8), (1, 7), (7, 8)]),
            [(("fn", 0, 1),), (("fn", 1, 2),), (("fn", 2, 3),), (("fn", 1, 2),)],
            [(), (), ()], [(0, 3), (2, 1), (2, 3)], [0, 2, 4, 6], [1, 3, 5])

    def test_round_and_round(self):
        self.paper(
            board_of(4, [("fn", (1, 2), 3)], (), [(3, 0), (0, 1), (1, 2), (2, 3)]),
            [(("fn", 0, 1),), (("fn", 0, 1),)], [()], [(0, 0), (0, 1)], [0, 2], [1])

    def test_none_from_an_out_to_an_in(self):
        self.paper(
            board_of(3, [("fn", (1, 2), 0)], (), [(2, 1)]), [(("fn", 0, 1),), ()], [()], [], [0, 2], [1])


class LaidTest(PolarCase):
    def test_a_num(self):
        self.paper(board_laid("( def a 7 )", 0), [(("num",),)], out_points=[0])

    def test_what_hands_on(self):
        self.paper(
            board_laid("( def f ( fn x x ) )", 0), [(("fn", 0, 1),), ()], [()], [(0, 1)], [0, 3], [2])

    def test_what_adds(self):
        self.paper(
            board_laid("( def f ( fn x ( add x x ) ) )", 0), [(("fn", 0, 1),), (("num",),)], [(("num",),)], [],
            [0, 3], [2])

    def test_an_own_name(self):
        self.paper(
            board_laid("( def f ( fn x ( call f x ) ) )", 0), [(("fn", 0, 1),), ()], [()], [], [0, 3], [2])

    # Points: 0 s, 1 the fn, 2 its x, 3 the case, 4 the name x, 5 and 7 what was tagged, 6 and 8 the names of it.
    def test_a_case(self):
        self.paper(
            board_laid("( def f ( fn x ( case x t y y s z ( size z ) ) ) )", 0),
            [(("fn", 0, 1),), (("num",),)], [(("case", (("s", 1), ("t", 2))),), (("row", 3),), (), ()],
            [(2, 1)], [0, 3], [2, 7, 5, 9])

    def test_less(self):
        self.paper(
            board_laid("( def a ( less 1 2 ) )", 0),
            [(("tag", "yes", 1), ("tag", "no", 1)), (("rec", ()),)], out_points=[0, 2])

    def test_all_of_them_by_the_words_of_the_document(self):
        for which in range(3):
            self.worded(board_laid(PROGRAM, which))


class PastedTest(PolarCase):
    # On its pasted board nothing meets, so an orderly paper comes back as it was.
    def test_an_orderly_paper_comes_back(self):
        boards = [board_laid(PROGRAM, which) for which in range(3)]
        boards += [some_board(seed, 9, 9, 9, 9) for seed in range(60)]
        for board in boards:
            paper = paper_of(board, settled(board))[0]
            other = Board()
            other.make("any", (), other.point(3), 3)
            other.rooted(pasted(other, paper, 3))
            behind = 1 + len(paper.outs)
            self.paper(
                other, paper.outs, paper.ins, paper.flows, list(range(1, behind)),
                list(range(behind, behind + len(paper.ins))))

    def test_one_that_is_not_orderly(self):
        board = Board()
        board.rooted(pasted(board, Paper(
            [(("fn", 1, 2),), (("num",),), (("row", 2), ("row", 2))], [(("row", 0),), (("num",), ("num",))],
            [(1, 2), (0, 1)]), 3))
        self.paper(board, [(("fn", 0, 1),), (("row", 1),)], [(("num",),)], [(0, 1)], [0, 2], [4])


class WordingTest(PolarCase):
    def test_small_boards(self):
        outs, ins, flows = 0, 0, 0
        for seed in range(300):
            sizes = random.Random(seed)
            wording = self.worded(some_board(
                seed, sizes.randrange(1, 12), sizes.randrange(14), sizes.randrange(12), sizes.randrange(10)))
            outs += len(wording.things["out"])
            ins += len(wording.things["in"])
            flows += len(wording.flows)
        self.assertGreater(min(outs, ins, flows), 300)

    def test_a_great_board(self):
        board = some_board(1, 140, 140, 140, 400)
        log = settled(board)
        paper, out_points, in_points = paper_of(board, log)
        self.assertGreater(min(len(out_points), len(in_points), len(paper.flows)), 50)
        self.assertEqual((len(paper.outs), len(paper.ins)), (len(out_points), len(in_points)))
        self.assertEqual(len(set(out_points)), len(out_points))
        self.assertEqual(len(set(in_points)), len(in_points))

    def test_a_long_row_of_flows(self):
        board = board_of(1500, [("fn", (1, 1499), 0)], [NumUse(1499, 9, 0)], [(p, p + 1) for p in range(1, 1499)])
        self.paper(board, [(("fn", 0, 1),), ()], [(("num",),)], [(0, 1)], [0, 1499], [1])

    def test_a_deep_making(self):
        board = board_of(1200, [("row", (p + 1,), p) for p in range(1199)])
        self.paper(board, [(("row", p + 1),) for p in range(1199)] + [()], out_points=list(range(1200)))


class OwnTest(unittest.TestCase):
    def setUp(self):
        self.board = board_laid(PROGRAM, 1)
        self.log = settled(self.board)

    def asked(self):
        paper, out_points, in_points = paper_of(self.board, self.log)
        return [paper.outs, paper.ins, paper.flows, out_points, in_points]

    def given(self):
        return (told(self.board), copy.deepcopy(vars(self.log)))

    def test_what_was_told_and_is_changed_changes_nothing_else(self):
        before = self.given()
        first = self.asked()
        kept = copy.deepcopy(first)
        second = self.asked()
        for each in first:
            each.append(each[0] if each else 7)
            each.reverse()
        self.assertEqual(second, kept)
        self.assertEqual(self.asked(), kept)
        self.assertEqual(self.given(), before)

    def test_what_was_told_holds_when_what_was_handed_in_is_changed(self):
        lists = self.asked()
        kept = copy.deepcopy(lists)
        self.log.rows.clear()
        self.board.makes.clear()
        self.board.uses.clear()
        self.board.points.clear()
        self.assertEqual(lists, kept)

    def test_no_two_lists_are_one(self):
        lists = self.asked() + self.asked() + [
            self.log.rows, self.log.bads, self.board.points, self.board.makes, self.board.uses, self.board.flows]
        self.assertEqual(len({id(each) for each in lists}), 16)

    def test_the_interface(self):
        self.assertEqual(list(inspect.signature(paper_of).parameters), ["board", "log"])


if __name__ == "__main__":
    unittest.main()
