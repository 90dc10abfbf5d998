"""[21] and [22]: boards settled."""

import copy
import inspect
import random
import unittest

from flowkinds.boards import Board, CallUse, CaseUse, NumUse, RowUse, TakeUse
from flowkinds.homes import homes_of
from flowkinds.laying import laid
from flowkinds.papers import Paper, pasted
from flowkinds.reading import read
from flowkinds.settling import Log, settled

# Each at point 0 of a board with points 0 to 4.
MAKES = {
    "num": (),
    "fn": (1, 2),
    "rec": (("x", 1), ("y", 2)),
    "tag": ("t", 1),
    "row": (1,),
    "any": (),
}

# Each at point 0 too, with the one shape of MAKES that it meets and the flows of that.
USES = [
    (NumUse(0, 9, 0), "num", []),
    (CallUse(0, 9, 0, 3, 4), "fn", [(3, 1), (2, 4)]),
    (TakeUse(0, 9, 0, (("y", 3), ("x", 4))), "rec", [(2, 3), (1, 4)]),
    (TakeUse(0, 9, 0, ()), "rec", []),
    (CaseUse(0, 9, 0, (("s", 3), ("t", 4))), "tag", [(1, 4)]),
    (RowUse(0, 9, 0, 3), "row", [(1, 3)]),
]

PROGRAM = """( def twice ( fn f ( fn x ( call f ( call f x ) ) ) ) )
( def down ( fn n ( case ( less n 1 ) yes u n no v ( call down ( sub n 1 ) ) ) ) )
( def all ( let r ( rec a twice b ( row 1 ( tag t 2 ) ) )
( call ( call ( get r a ) down ) ( at ( join ( get r b ) ( row 3 ) ) 0 ( size 4 ) ) ) ) )"""


def board_of(points, makes=(), uses=(), flows=()):
    board = Board()
    for number in range(points):
        board.point(number + 20)
    for number, (shape, parts, at) in enumerate(makes):
        board.make(shape, parts, at, number + 50)
    for use in uses:
        board.use(use)
    for p, q in flows:
        board.flow(p, q)
    return board


def board_laid(text, which):
    program = read(text)
    return laid(program, homes_of(program), which)


def told(board):
    return copy.deepcopy((
        board.points, [one.told() for one in board.makes], [one.told() for one in board.uses], board.flows, board.root))


# The rows as the document's words go: whatever is asked for is looked up among
# all rows, and only then held against the number of the row that is worked.
class Wording:
    def __init__(self, board):
        self.rows, self.bads, self.known = [], [], set()
        self.leading = [[] for _ in board.points]
        self.here = [[] for _ in board.points]
        for p, q in board.flows:
            self.add("goes", p, q, None)
        for m, make in enumerate(board.makes):
            self.add("here", m, make.at, None)
        k = 0
        while k < len(self.rows):
            word, first, second, _ = self.rows[k]
            if word == "goes":
                for j in [j for j in self.here[first] if j < k]:
                    self.add("here", self.rows[j][1], second, (j, k))
            else:
                for u in [u for u, use in enumerate(board.uses) if use.at == second]:
                    flows = board.uses[u].met(board.makes[first])
                    if flows is None:
                        self.bads.append((k, u))
                    for x, y in flows or []:
                        self.add("goes", x, y, (k, u))
                for f in [f for f in self.leading[second] if f < k]:
                    self.add("here", first, self.rows[f][2], (k, f))
            k += 1

    def add(self, word, first, second, why):
        if (word, first, second) in self.known:
            return
        self.known.add((word, first, second))
        if word == "goes":
            self.leading[first].append(len(self.rows))
        else:
            self.here[second].append(len(self.rows))
        self.rows.append((word, first, second, why))


def some_board(seed, points, makes, uses, flows):
    chance = random.Random(seed)
    words = ["a", "b", "c", "d"]

    def point():
        return chance.randrange(points)

    def pairs():
        return tuple((word, point()) for word in chance.sample(words, chance.randrange(4)))

    board = Board()
    for _ in range(points):
        board.point(chance.randrange(12))
    board.rooted(point())
    for _ in range(makes):
        shape, parts = chance.choice([
            ("num", ()), ("any", ()), ("fn", (point(), point())), ("fn", (point(), point())), ("rec", pairs()),
            ("tag", (chance.choice(words), point())), ("row", (point(),))])
        board.make(shape, parts, point(), chance.randrange(12))
    for _ in range(uses):
        at, place, slot = point(), chance.randrange(12), chance.randrange(2)
        board.use(chance.choice([
            NumUse(at, place, slot), CallUse(at, place, slot, point(), point()),
            CallUse(at, place, slot, point(), point()), TakeUse(at, place, slot, pairs()),
            CaseUse(at, place, slot, pairs()), RowUse(at, place, slot, point())]))
    for _ in range(flows):
        board.flow(point(), point())
    return board


class SettlingCase(unittest.TestCase):
    maxDiff = None

    def settled(self, board, rows, bads=()):
        before = told(board)
        log = settled(board)
        with self.subTest(before):
            self.assertIs(type(log), Log)
            self.assertEqual(log.rows, list(rows))
            self.assertEqual(log.bads, list(bads))
            self.assertIs(type(log.rows), list)
            self.assertIs(type(log.bads), list)
            self.assertTrue(all(type(row) is tuple for row in log.rows + log.bads))
            self.assertTrue(all(row[3] is None or type(row[3]) is tuple for row in log.rows))
            self.assertEqual(told(board), before)


class LogTest(unittest.TestCase):
    def test_it_holds_the_very_lists_it_is_made_of(self):
        rows, bads = [("here", 0, 0, None)], [(0, 0)]
        log = Log(rows, bads)
        self.assertIs(log.rows, rows)
        self.assertIs(log.bads, bads)

    def test_the_interface(self):
        self.assertEqual(list(inspect.signature(Log).parameters), ["rows", "bads"])
        self.assertEqual(list(inspect.signature(settled).parameters), ["board"])


class BeginningTest(SettlingCase):
    def test_an_empty_board(self):
        self.settled(Board(), [])

    def test_points_alone(self):
        self.settled(board_of(3), [])

    def test_uses_alone(self):
        self.settled(board_of(2, uses=[NumUse(0, 9, 0), CallUse(1, 9, 0, 0, 1)]), [])

    def test_flows_in_order_each_once(self):
        self.settled(
            board_of(3, flows=[(2, 1), (0, 1), (2, 1), (1, 2), (0, 1)]),
            [("goes", 2, 1, None), ("goes", 0, 1, None), ("goes", 1, 2, None)])

    def test_a_flow_from_a_point_to_itself(self):
        self.settled(board_of(1, flows=[(0, 0)]), [("goes", 0, 0, None)])
        self.settled(
            board_of(1, makes=[("num", (), 0)], flows=[(0, 0), (0, 0)]), [("goes", 0, 0, None), ("here", 0, 0, None)])

    def test_makings_in_order_behind_the_flows(self):
        self.settled(
            board_of(3, makes=[("num", (), 2), ("any", (), 0), ("num", (), 2)], flows=[(1, 0)]),
            [("goes", 1, 0, None), ("here", 0, 2, None), ("here", 1, 0, None), ("here", 2, 2, None)])

    def test_alike_numbers_of_a_flow_and_a_making(self):
        self.settled(
            board_of(2, makes=[("num", (), 1)], flows=[(0, 1)]), [("goes", 0, 1, None), ("here", 0, 1, None)])


class GoingOnTest(SettlingCase):
    def test_over_flows_that_are_there(self):
        self.settled(board_of(3, makes=[("num", (), 0)], flows=[(0, 1), (1, 2)]), [
            ("goes", 0, 1, None), ("goes", 1, 2, None), ("here", 0, 0, None), ("here", 0, 1, (2, 0)),
            ("here", 0, 2, (3, 1))])

    def test_over_several_flows_of_one_point(self):
        self.settled(board_of(4, makes=[("num", (), 0)], flows=[(0, 3), (0, 1), (0, 2)]), [
            ("goes", 0, 3, None), ("goes", 0, 1, None), ("goes", 0, 2, None), ("here", 0, 0, None),
            ("here", 0, 3, (3, 0)), ("here", 0, 1, (3, 1)), ("here", 0, 2, (3, 2))])

    def test_several_makings_over_one_flow(self):
        self.settled(board_of(2, makes=[("num", (), 0), ("any", (), 1), ("row", (0,), 0)], flows=[(0, 1)]), [
            ("goes", 0, 1, None), ("here", 0, 0, None), ("here", 1, 1, None), ("here", 2, 0, None),
            ("here", 0, 1, (1, 0)), ("here", 2, 1, (3, 0))])

    def test_round_and_round(self):
        self.settled(board_of(2, makes=[("num", (), 0), ("num", (), 1)], flows=[(0, 1), (1, 0)]), [
            ("goes", 0, 1, None), ("goes", 1, 0, None), ("here", 0, 0, None), ("here", 1, 1, None),
            ("here", 0, 1, (2, 0)), ("here", 1, 0, (3, 1))])

    def test_a_point_that_is_come_to_by_two_ways(self):
        self.settled(board_of(4, makes=[("num", (), 0)], flows=[(2, 3), (0, 1), (0, 2), (1, 3)]), [
            ("goes", 2, 3, None), ("goes", 0, 1, None), ("goes", 0, 2, None), ("goes", 1, 3, None),
            ("here", 0, 0, None), ("here", 0, 1, (4, 1)), ("here", 0, 2, (4, 2)), ("here", 0, 3, (5, 3))])

    # The num is at the argument's point ahead of the flow that leads on from it.
    def test_over_a_flow_that_comes_later(self):
        board = board_of(6, [("fn", (1, 2), 0), ("num", (), 3), ("num", (), 2)], [CallUse(0, 9, 0, 3, 4)], [(4, 5)])
        self.settled(board, [
            ("goes", 4, 5, None), ("here", 0, 0, None), ("here", 1, 3, None), ("here", 2, 2, None),
            ("goes", 3, 1, (1, 0)), ("goes", 2, 4, (1, 0)), ("here", 1, 1, (2, 4)), ("here", 2, 4, (3, 5)),
            ("here", 2, 5, (7, 0))])

    # Row 4 is there when row 3 is worked, but stands behind it: only row 4 itself takes the two on.
    def test_several_makings_over_a_flow_that_comes_later(self):
        board = board_of(5, [("row", (1,), 0), ("any", (), 1), ("num", (), 4), ("num", (), 1)], [RowUse(0, 9, 0, 3)])
        self.settled(board, [
            ("here", 0, 0, None), ("here", 1, 1, None), ("here", 2, 4, None), ("here", 3, 1, None),
            ("goes", 1, 3, (0, 0)), ("here", 1, 3, (1, 4)), ("here", 3, 3, (3, 4))])

    # What comes to point 1 behind the flow from it goes on by its own row.
    def test_a_here_row_behind_a_flow_that_came_later(self):
        board = board_of(
            5, [("row", (1,), 0), ("num", (), 1), ("num", (), 2)], [RowUse(0, 9, 0, 3)], [(2, 4), (4, 1)])
        self.settled(board, [
            ("goes", 2, 4, None), ("goes", 4, 1, None), ("here", 0, 0, None), ("here", 1, 1, None),
            ("here", 2, 2, None), ("goes", 1, 3, (2, 0)), ("here", 2, 4, (4, 0)), ("here", 1, 3, (3, 5)),
            ("here", 2, 1, (6, 1)), ("here", 2, 3, (8, 5))])

    def test_a_flow_from_a_point_to_itself_that_comes_later(self):
        self.settled(board_of(1, [("row", (0,), 0)], [RowUse(0, 9, 0, 0)]), [
            ("here", 0, 0, None), ("goes", 0, 0, (0, 0))])


class MeetingTest(SettlingCase):
    def test_each_making_with_each_use(self):
        for use, meets, flows in USES:
            for shape, parts in MAKES.items():
                with self.subTest(use.told(), shape=shape):
                    board = board_of(5, [(shape, parts, 0)], [use])
                    rows = [("here", 0, 0, None)]
                    if shape == meets:
                        self.settled(board, rows + [("goes", p, q, (0, 0)) for p, q in flows])
                    else:
                        self.settled(board, rows, [(0, 0)])

    def test_a_field_and_a_tag_that_are_lacking(self):
        take = TakeUse(0, 9, 0, (("x", 3), ("z", 4)))
        self.settled(board_of(5, [("rec", MAKES["rec"], 0)], [take]), [("here", 0, 0, None)], [(0, 0)])
        case = CaseUse(0, 9, 0, (("s", 3), ("u", 4)))
        self.settled(board_of(5, [("tag", MAKES["tag"], 0)], [case]), [("here", 0, 0, None)], [(0, 0)])

    def test_a_use_at_another_point(self):
        for use, _, _ in USES:
            board = board_of(5, [("any", (), 1)], [use])
            self.settled(board, [("here", 0, 1, None)])

    def test_uses_of_one_point_in_the_boards_order(self):
        board = board_of(8, [("fn", (6, 7), 0)], [
            RowUse(1, 9, 0, 2), CallUse(0, 9, 0, 2, 3), NumUse(1, 9, 0), CallUse(0, 9, 0, 4, 5), NumUse(0, 9, 1)])
        self.settled(board, [
            ("here", 0, 0, None), ("goes", 2, 6, (0, 1)), ("goes", 7, 3, (0, 1)), ("goes", 4, 6, (0, 3)),
            ("goes", 7, 5, (0, 3))], [(0, 4)])

    def test_uses_ahead_of_flows(self):
        board = board_of(6, [("fn", (2, 3), 0)], [CallUse(0, 9, 0, 4, 5)], [(0, 1)])
        self.settled(board, [
            ("goes", 0, 1, None), ("here", 0, 0, None), ("goes", 4, 2, (1, 0)), ("goes", 3, 5, (1, 0)),
            ("here", 0, 1, (1, 0))])

    def test_a_take_of_two_fields_goes_by_its_own_order(self):
        board = board_of(
            5, [("rec", (("a", 1), ("b", 2), ("c", 1)), 0)], [TakeUse(0, 9, 0, (("c", 4), ("b", 3)))])
        self.settled(board, [("here", 0, 0, None), ("goes", 1, 4, (0, 0)), ("goes", 2, 3, (0, 0))])

    def test_flows_of_meetings_that_are_there_already(self):
        board = board_of(5, [("fn", (1, 2), 0)], [CallUse(0, 9, 0, 3, 4), CallUse(0, 8, 0, 3, 2)], [(3, 1)])
        self.settled(board, [
            ("goes", 3, 1, None), ("here", 0, 0, None), ("goes", 2, 4, (1, 0)), ("goes", 2, 2, (1, 1))])

    def test_alike_flows_of_one_meeting(self):
        board = board_of(3, [("rec", (("x", 1), ("y", 1)), 0)], [TakeUse(0, 9, 0, (("x", 2), ("y", 2)))])
        self.settled(board, [("here", 0, 0, None), ("goes", 1, 2, (0, 0))])

    def test_one_making_at_two_points_with_uses(self):
        board = board_of(3, [("row", (2,), 0)], [RowUse(1, 9, 0, 0), RowUse(0, 8, 0, 1)], [(0, 1)])
        self.settled(board, [
            ("goes", 0, 1, None), ("here", 0, 0, None), ("goes", 2, 1, (1, 1)), ("here", 0, 1, (1, 0)),
            ("goes", 2, 0, (3, 0))])

    def test_two_makings_alike_at_one_use(self):
        board = board_of(3, [("row", (1,), 0), ("row", (1,), 0)], [RowUse(0, 9, 0, 2)])
        self.settled(board, [("here", 0, 0, None), ("here", 1, 0, None), ("goes", 1, 2, (0, 0))])


class BadsTest(SettlingCase):
    def test_in_the_order_of_rows_and_then_of_uses(self):
        board = board_of(
            2, [("any", (), 0), ("num", (), 1), ("row", (0,), 0)],
            [NumUse(1, 9, 0), RowUse(0, 9, 0, 1), CallUse(1, 9, 0, 0, 0), NumUse(0, 9, 1)], [(0, 1)])
        self.settled(board, [
            ("goes", 0, 1, None), ("here", 0, 0, None), ("here", 1, 1, None), ("here", 2, 0, None),
            ("here", 0, 1, (1, 0)), ("here", 2, 1, (3, 0))],
            [(1, 1), (1, 3), (2, 2), (3, 3), (4, 0), (4, 2), (5, 0), (5, 2)])

    def test_what_cant_be_first(self):
        board = board_of(
            4, [("num", (), 3), ("tag", ("t", 0), 0)], [NumUse(2, 9, 0), RowUse(3, 8, 0, 0)], [(0, 1), (1, 2)])
        log = settled(board)
        self.assertEqual(log.bads[0], (2, 1))
        self.assertEqual(log.rows[2], ("here", 0, 3, None))
        self.assertEqual(log.bads, [(2, 1), (5, 0)])

    def test_a_pair_that_cant_meet_does_not_end_the_settling(self):
        board = board_of(3, [("num", (), 0)], [RowUse(0, 9, 0, 1)], [(0, 2)])
        self.settled(board, [("goes", 0, 2, None), ("here", 0, 0, None), ("here", 0, 2, (1, 0))], [(1, 0)])

    def test_a_board_that_is_let_by(self):
        for text, which in (
            ("( def a 1 )", 0), ("( def a ( fn x x ) ) ( def b ( call a ( call a 1 ) ) )", 1),
            ("( def a ( case ( less 1 2 ) no x 1 yes y 2 ) )", 0), ("( def a ( at ( row 1 ) 0 2 ) )", 0),
            ("( def a ( let f ( fn x x ) ( call ( call f f ) 1 ) ) )", 0), (PROGRAM, 0), (PROGRAM, 1),
        ):
            with self.subTest(text, which=which):
                self.assertEqual(settled(board_laid(text, which)).bads, [])

    def test_a_board_that_is_not_let_by(self):
        for text, which in (
            ("( def a ( call 1 2 ) )", 0), ("( def a ( get ( rec x 1 ) y ) )", 0), ("( def a ( size 1 ) )", 0),
            ("( def a ( case ( tag t 1 ) s x x ) )", 0), ("( def a ( fn x ( add 1 ( row x ) ) ) )", 0),
            ("( def a ( fn x x ) ) ( def b ( add 1 a ) )", 1), (PROGRAM, 2),
        ):
            with self.subTest(text, which=which):
                self.assertNotEqual(settled(board_laid(text, which)).bads, [])


class LaidTest(SettlingCase):
    def test_an_own_name(self):
        self.settled(board_laid("( def f ( fn x ( call f x ) ) )", 0), [
            ("goes", 0, 4, None), ("goes", 2, 5, None), ("goes", 1, 0, None), ("here", 0, 1, None),
            ("here", 0, 0, (3, 2)), ("here", 0, 4, (4, 0)), ("goes", 5, 2, (5, 0)), ("goes", 3, 3, (5, 0))])

    def test_a_let(self):
        self.settled(board_laid("( def a ( let x 1 ( size x ) ) )", 0), [
            ("goes", 6, 5, None), ("goes", 3, 1, None), ("goes", 1, 0, None), ("here", 0, 2, None),
            ("here", 1, 6, None), ("here", 2, 3, None), ("here", 1, 5, (4, 0)), ("here", 2, 1, (5, 1)),
            ("here", 2, 0, (7, 2))], [(6, 0)])

    def test_names_of_another_definition(self):
        self.settled(board_laid("( def a 1 ) ( def b ( add a a ) )", 1), [
            ("goes", 4, 3, None), ("goes", 3, 2, None), ("goes", 7, 6, None), ("goes", 6, 5, None),
            ("goes", 1, 0, None), ("here", 0, 4, None), ("here", 1, 7, None), ("here", 2, 1, None),
            ("here", 0, 3, (5, 0)), ("here", 1, 6, (6, 2)), ("here", 2, 0, (7, 4)), ("here", 0, 2, (8, 1)),
            ("here", 1, 5, (9, 3))])

    def test_all_of_them_by_the_words_of_the_document(self):
        for which in range(3):
            board = board_laid(PROGRAM, which)
            wording = Wording(board)
            self.settled(board, wording.rows, wording.bads)


class WordingTest(SettlingCase):
    def test_small_boards(self):
        found = []
        for seed in range(300):
            sizes = random.Random(seed)
            board = some_board(
                seed, sizes.randrange(1, 9), sizes.randrange(9), sizes.randrange(9), sizes.randrange(10))
            wording = Wording(board)
            self.settled(board, wording.rows, wording.bads)
            found += [row[0] for row in wording.rows if row[3] is not None] + ["bad"] * len(wording.bads)
        for word in ("goes", "here", "bad"):
            self.assertGreater(found.count(word), 200)

    def test_boards_as_great_as_may_be(self):
        for seed in range(2):
            board = some_board(seed, 140, 140, 140, 400)
            wording = Wording(board)
            self.settled(board, wording.rows, wording.bads)
            self.assertGreater(len(wording.rows), 10000)

    def test_what_the_rows_are(self):
        for seed in range(40):
            board = some_board(seed, 8, 8, 8, 9)
            log = settled(board)
            self.assertEqual(len({row[:3] for row in log.rows}), len(log.rows))
            for number, (word, first, second, why) in enumerate(log.rows):
                if why is not None and word == "here":
                    here, goes = log.rows[why[0]], log.rows[why[1]]
                    self.assertLess(max(why), number)
                    self.assertEqual((here[0], here[1], goes[0]), ("here", first, "goes"))
                    self.assertEqual((here[2], goes[2]), (goes[1], second))
                elif why is not None:
                    here = log.rows[why[0]]
                    self.assertLess(why[0], number)
                    self.assertEqual((here[0], here[2]), ("here", board.uses[why[1]].at))
                    self.assertIn((first, second), board.uses[why[1]].met(board.makes[here[1]]))


class GreatBoardTest(SettlingCase):
    # A ring on which each of the 140 makings comes to each of the 140 points;
    # every second use can't meet it.
    def test_a_ring(self):
        board = Board()
        for number in range(140):
            board.point(number)
        for number in range(140):
            board.make("num", (), number, number)
            board.use(NumUse(number, number, 0) if number % 2 == 0 else RowUse(number, number, 0, 0))
        for step in (1, 2):
            for number in range(140):
                board.flow(number, (number + step) % 140)
        for number in range(120):
            board.flow(number, number)
        log = settled(board)
        self.assertEqual(len(log.rows), 400 + 140 * 140)
        self.assertEqual(log.rows[540:544], [
            ("here", 0, 1, (400, 0)), ("here", 0, 2, (400, 140)), ("here", 1, 2, (401, 1)), ("here", 1, 3, (401, 141))])
        self.assertEqual({row[1:3] for row in log.rows[400:]}, {(m, p) for m in range(140) for p in range(140)})
        self.assertEqual(len(log.bads), 140 * 70)
        self.assertEqual(log.bads[:2], [(401, 1), (403, 3)])

    def test_a_long_row_of_flows(self):
        board = Board()
        for number in range(3000):
            board.point(0)
        board.make("num", (), 0, 0)
        for number in range(2999):
            board.flow(number, number + 1)
        log = settled(board)
        self.assertEqual(len(log.rows), 2999 + 3000)
        self.assertEqual(log.rows[-1], ("here", 0, 2999, (5997, 2998)))

    def test_a_pasted_paper(self):
        board = Board()
        root = pasted(board, Paper([(("fn", 0, 1),), (("num",),)], [(("num",), ("call", 1, 0))], [(0, 0), (0, 1)]), 5)
        board.flow(root, root + 2)
        self.settled(board, [
            ("goes", 2, 0, None), ("goes", 2, 1, None), ("goes", 0, 2, None), ("here", 0, 0, None),
            ("here", 1, 1, None), ("here", 0, 2, (3, 2)), ("goes", 1, 2, (5, 1)), ("here", 0, 1, (5, 1)),
            ("here", 1, 2, (4, 6)), ("here", 1, 0, (8, 0))], [(5, 0), (8, 1)])


class OwnTest(unittest.TestCase):
    def test_the_board_stays(self):
        board = some_board(3, 8, 8, 8, 9)
        before = told(board)
        log = settled(board)
        self.assertEqual(told(board), before)
        log.rows.clear()
        log.bads.append((0, 0))
        self.assertEqual(told(board), before)

    def test_a_log_told_and_changed_changes_no_later_answer(self):
        board = some_board(3, 8, 8, 8, 9)
        first = settled(board)
        kept = copy.deepcopy(vars(first))
        second = settled(board)
        first.rows.pop()
        first.bads.clear()
        self.assertEqual(vars(second), kept)
        self.assertEqual(vars(settled(board)), kept)

    def test_a_log_told_holds_when_the_board_is_changed(self):
        board = some_board(3, 8, 8, 8, 9)
        log = settled(board)
        kept = copy.deepcopy(vars(log))
        board.flows.clear()
        board.make("any", (), 0, 0)
        board.uses[0].at = 1
        self.assertEqual(vars(log), kept)
        self.assertNotEqual(vars(settled(board)), kept)

    def test_a_board_that_goes_on_after_a_settling(self):
        board = board_of(2, [("num", (), 0)])
        settled(board)
        board.flow(0, 1)
        board.use(NumUse(1, 9, 0))
        log = settled(board)
        self.assertEqual(log.rows, [("goes", 0, 1, None), ("here", 0, 0, None), ("here", 0, 1, (1, 0))])
        self.assertEqual(log.bads, [])

    def test_no_two_lists_are_one(self):
        board = some_board(3, 8, 8, 8, 9)
        logs = [settled(board), settled(board), settled(Board()), settled(Board())]
        lists = [each for log in logs for each in (log.rows, log.bads)]
        lists += [board.points, board.makes, board.uses, board.flows]
        self.assertEqual(len({id(each) for each in lists}), 12)


if __name__ == "__main__":
    unittest.main()
