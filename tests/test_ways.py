"""[23] to [25]: ways and chains through a Log, and meetings and arrivals by it."""

import copy
import inspect
import unittest

from flowkinds import ways
from flowkinds.boards import Board, CallUse, CaseUse, NumUse, RowUse, TakeUse
from flowkinds.homes import homes_of
from flowkinds.laying import laid
from flowkinds.reading import read
from flowkinds.settling import Log, settled
from flowkinds.ways import arrivals, bad_meetings, chain, meetings, way

PROGRAM = """( def twice ( fn f ( fn x ( call f ( call f x ) ) ) ) )
( def down ( fn n ( case ( less n 1 ) yes u n no v ( call down ( sub n 1 ) ) ) ) )
( def all ( let r ( rec a twice b ( row 1 ( tag t 2 ) ) )
( call ( call ( get r a ) down ) ( at ( join ( get r b ) ( row 3 ) ) 0 ( size 4 ) ) ) ) )"""


# Places are those given for the points; a making's place is 50 and its number.
def board_of(places, makes=(), uses=(), flows=()):
    board = Board()
    for place in places:
        board.point(place)
    for number, (shape, parts, at) in enumerate(makes):
        board.make(shape, parts, at, number + 50)
    for use in uses:
        board.use(use)
    for p, q in flows:
        board.flow(p, q)
    return board


def board_laid(text, which):
    program = read(text)
    return laid(program, homes_of(program), which)


def told(board):
    return copy.deepcopy((
        board.points, [one.told() for one in board.makes], [one.told() for one in board.uses], board.flows, board.root))


# A fn comes from point 0 by the board's flows to 1 and 2 and is called there;
# its argument, a num, goes from 5 to 3 over a flow of that meeting and from
# there to 4, and by the other flow of the meeting to 6 and 7.
#   0 goes 0 1   1 goes 1 2   2 goes 3 4   3 goes 6 7   4 goes 8 8
#   5 here fn 0   6 here num 5   7 here any 8
#   8 here fn 1 (5, 0)   9 here fn 2 (8, 1)
#   10 goes 5 3 (9, 4)   11 goes 4 6 (9, 4)
#   12 here num 3 (6, 10)   13 here num 4 (12, 2)   14 here num 6 (13, 11)   15 here num 7 (14, 3)
def called():
    board = board_of(
        [30, 31, 32, 33, 34, 35, 36, 37, 38], [("fn", (3, 4), 0), ("num", (), 5), ("any", (), 8)],
        [NumUse(7, 9, 0), RowUse(8, 9, 0, 0), NumUse(3, 9, 1), RowUse(6, 8, 0, 0), CallUse(2, 7, 0, 5, 6)],
        [(0, 1), (1, 2), (3, 4), (6, 7), (8, 8)])
    return board, settled(board)


class WaysCase(unittest.TestCase):
    maxDiff = None

    def way(self, log, k, wanted):
        before = copy.deepcopy(vars(log))
        with self.subTest(k=k):
            found = way(log, k)
            self.assertEqual(found, wanted)
            self.assertIs(type(found), list)
            self.assertTrue(all(type(row) is tuple for row in found))
            self.assertEqual(vars(log), before)

    def chain(self, log, k, wanted):
        before = copy.deepcopy(vars(log))
        with self.subTest(k=k):
            found = chain(log, k)
            self.assertEqual(found, wanted)
            self.assertIs(type(found), list)
            self.assertEqual(vars(log), before)


class WayTest(WaysCase):
    def test_the_log_that_is_walked(self):
        board, log = called()
        self.assertEqual(log.rows[5:], [
            ("here", 0, 0, None), ("here", 1, 5, None), ("here", 2, 8, None), ("here", 0, 1, (5, 0)),
            ("here", 0, 2, (8, 1)), ("goes", 5, 3, (9, 4)), ("goes", 4, 6, (9, 4)), ("here", 1, 3, (6, 10)),
            ("here", 1, 4, (12, 2)), ("here", 1, 6, (13, 11)), ("here", 1, 7, (14, 3))])
        self.assertEqual(log.bads, [(7, 1), (14, 3)])

    def test_to_a_row_without_a_why(self):
        board, log = called()
        self.way(log, 0, [("goes", 0, 1, None)])
        self.way(log, 4, [("goes", 8, 8, None)])
        self.way(log, 6, [("here", 1, 5, None)])
        self.way(log, 7, [("here", 2, 8, None)])

    def test_to_a_here_row_over_flows(self):
        board, log = called()
        self.way(log, 8, [("goes", 0, 1, None), ("here", 0, 0, None), ("here", 0, 1, (1, 0))])
        self.way(log, 9, [
            ("goes", 0, 1, None), ("goes", 1, 2, None), ("here", 0, 0, None), ("here", 0, 1, (2, 0)),
            ("here", 0, 2, (3, 1))])

    # Row 9 stands at place 4 of the way, and the use's number 4 stays 4.
    def test_to_a_goes_row_of_a_meeting(self):
        board, log = called()
        start = [
            ("goes", 0, 1, None), ("goes", 1, 2, None), ("here", 0, 0, None), ("here", 0, 1, (2, 0)),
            ("here", 0, 2, (3, 1))]
        self.way(log, 10, start + [("goes", 5, 3, (4, 4))])
        self.way(log, 11, start + [("goes", 4, 6, (4, 4))])

    def test_to_a_here_row_over_flows_of_meetings(self):
        board, log = called()
        self.way(log, 12, [
            ("goes", 0, 1, None), ("goes", 1, 2, None), ("here", 0, 0, None), ("here", 1, 5, None),
            ("here", 0, 1, (2, 0)), ("here", 0, 2, (4, 1)), ("goes", 5, 3, (5, 4)), ("here", 1, 3, (3, 6))])

    def test_to_the_last_row(self):
        board, log = called()
        self.way(log, 15, [
            ("goes", 0, 1, None), ("goes", 1, 2, None), ("goes", 3, 4, None), ("goes", 6, 7, None),
            ("here", 0, 0, None), ("here", 1, 5, None), ("here", 0, 1, (4, 0)), ("here", 0, 2, (6, 1)),
            ("goes", 5, 3, (7, 4)), ("goes", 4, 6, (7, 4)), ("here", 1, 3, (5, 8)), ("here", 1, 4, (10, 2)),
            ("here", 1, 6, (11, 9)), ("here", 1, 7, (12, 3))])

    # The fn is its own argument: it needs its own here row and, by the flow, the same one again.
    def test_to_a_row_that_needs_one_row_by_two_ways(self):
        board = board_of(
            [0, 0, 0, 0], [("num", (), 3), ("fn", (1, 2), 0)],
            [NumUse(3, 9, 0), NumUse(3, 9, 1), NumUse(3, 8, 0), CallUse(0, 9, 0, 0, 3)])
        log = settled(board)
        self.assertEqual(log.rows, [
            ("here", 0, 3, None), ("here", 1, 0, None), ("goes", 0, 1, (1, 3)), ("goes", 2, 3, (1, 3)),
            ("here", 1, 1, (1, 2))])
        self.way(log, 4, [("here", 1, 0, None), ("goes", 0, 1, (0, 3)), ("here", 1, 1, (0, 1))])
        self.way(log, 3, [("here", 1, 0, None), ("goes", 2, 3, (0, 3))])

    # The use has the number of a row of the way, of one that is not on it, and of none at all.
    def test_a_uses_number_is_no_rows_number(self):
        log = Log([
            ("goes", 0, 1, None), ("here", 0, 4, None), ("here", 1, 0, None), ("goes", 4, 5, (1, 1)),
            ("goes", 5, 6, (1, 2)), ("goes", 6, 7, (1, 99))], [])
        self.way(log, 3, [("here", 0, 4, None), ("goes", 4, 5, (0, 1))])
        self.way(log, 4, [("here", 0, 4, None), ("goes", 5, 6, (0, 2))])
        self.way(log, 5, [("here", 0, 4, None), ("goes", 6, 7, (0, 99))])

    def test_both_rows_of_a_here_rows_why(self):
        log = Log([
            ("goes", 0, 1, None), ("here", 0, 4, None), ("here", 1, 0, None), ("goes", 0, 5, (1, 0)),
            ("here", 1, 5, (2, 3))], [])
        self.way(log, 4, [
            ("here", 0, 4, None), ("here", 1, 0, None), ("goes", 0, 5, (0, 0)), ("here", 1, 5, (1, 2))])

    def test_every_way_leads_by_itself(self):
        for which in range(3):
            board = board_laid(PROGRAM, which)
            log = settled(board)
            for k, row in enumerate(log.rows):
                found = way(log, k)
                self.assertEqual(found[-1][:3], row[:3])
                self.assertEqual(len({one[:3] for one in found}), len(found))
                numbers = [[one[:3] for one in log.rows].index(one[:3]) for one in found]
                self.assertEqual(numbers, sorted(numbers))
                for place, (word, first, second, why) in enumerate(found):
                    self.assertEqual(why is None, log.rows[numbers[place]][3] is None)
                    if why is None:
                        continue
                    here = found[why[0]]
                    self.assertLess(why[0], place)
                    if word == "here":
                        self.assertLess(why[1], place)
                        self.assertEqual(here[:2] + found[why[1]][:3], ("here", first, "goes", here[2], second))
                    else:
                        self.assertEqual(why[1], log.rows[numbers[place]][3][1])
                        self.assertIn((first, second), board.uses[why[1]].met(board.makes[here[1]]))
                        self.assertEqual((here[0], here[2]), ("here", board.uses[why[1]].at))

    # Each here row needs the one ahead of it by both parts of its why.
    def test_to_a_row_that_needs_one_row_by_very_many_ways(self):
        rows = [("here", 0, 0, None)]
        for p in range(100):
            here = len(rows) - 1
            rows += [("goes", p, p + 1, (here, 7)), ("here", 0, p + 1, (here, here + 1))]
        self.way(Log(rows, []), 200, rows)
        self.chain(Log(rows, []), 200, list(range(101)))

    def test_a_long_way(self):
        rows = [("goes", p, p + 1, None) for p in range(5000)] + [("here", 0, 0, None)]
        rows += [("here", 0, p + 1, (5000 + p, p)) for p in range(5000)]
        log = Log(rows, [])
        self.assertEqual(way(log, 10000), rows)
        self.assertEqual(chain(log, 10000), list(range(5001)))


class ChainTest(WaysCase):
    def test_of_a_making_itself(self):
        board, log = called()
        self.chain(log, 5, [0])
        self.chain(log, 6, [5])
        self.chain(log, 7, [8])

    def test_over_flows(self):
        board, log = called()
        self.chain(log, 8, [0, 1])
        self.chain(log, 9, [0, 1, 2])

    def test_over_flows_of_meetings(self):
        board, log = called()
        self.chain(log, 12, [5, 3])
        self.chain(log, 13, [5, 3, 4])
        self.chain(log, 14, [5, 3, 4, 6])
        self.chain(log, 15, [5, 3, 4, 6, 7])

    def test_by_the_first_of_two_ways(self):
        log = settled(board_of([0] * 4, [("num", (), 0)], (), [(2, 3), (0, 1), (0, 2), (1, 3)]))
        self.chain(log, 7, [0, 1, 3])

    def test_of_what_cant_be_first(self):
        board = board_laid("( def a ( let x 1 ( size x ) ) )", 0)
        log = settled(board)
        self.chain(log, log.bads[0][0], [6, 5])
        self.way(log, log.bads[0][0], [("goes", 6, 5, None), ("here", 1, 6, None), ("here", 1, 5, (1, 0))])


class MeetingsTest(unittest.TestCase):
    def told(self, board, log, all_meetings, bads, comings):
        before = (told(board), copy.deepcopy(vars(log)))
        for ask, wanted in ((meetings, all_meetings), (bad_meetings, bads), (arrivals, comings)):
            with self.subTest(ask.__name__):
                found = ask(board, log)
                self.assertEqual(found, wanted)
                self.assertIs(type(found), list)
                self.assertTrue(all(type(one) is tuple for one in found))
        self.assertEqual((told(board), vars(log)), before)

    def settled(self, board, all_meetings=(), bads=(), comings=()):
        self.told(board, settled(board), list(all_meetings), list(bads), list(comings))

    def test_an_empty_board(self):
        self.settled(Board())

    def test_a_making_without_a_use_and_a_use_without_a_making(self):
        self.settled(board_of([4], [("num", (), 0)]), comings=[(4, 50)])
        self.settled(board_of([4, 5], [], [NumUse(0, 9, 0)], [(0, 1)]))
        self.settled(board_of([4, 5], [("num", (), 0)], [NumUse(1, 9, 0)]), comings=[(4, 50)])

    def test_a_pair_that_meets(self):
        self.settled(board_of([4], [("num", (), 0)], [NumUse(0, 9, 1)]), [(50, 9, 1)], [], [(4, 50)])

    def test_a_pair_that_cant_meet(self):
        self.settled(board_of([4], [("any", (), 0)], [NumUse(0, 9, 1)]), [(50, 9, 1)], [(50, 9, 1)], [(4, 50)])

    def test_sorted(self):
        board = board_of(
            [7, 3], [("num", (), 1), ("row", (0,), 0), ("num", (), 0)],
            [NumUse(1, 9, 1), RowUse(1, 9, 0, 0), NumUse(0, 8, 0), RowUse(1, 6, 1, 0)], [(0, 1)])
        self.settled(
            board,
            [(50, 6, 1), (50, 9, 0), (50, 9, 1), (51, 6, 1), (51, 8, 0), (51, 9, 0), (51, 9, 1), (52, 6, 1),
             (52, 8, 0), (52, 9, 0), (52, 9, 1)],
            [(50, 6, 1), (50, 9, 0), (51, 8, 0), (51, 9, 1), (52, 6, 1), (52, 9, 0)],
            [(3, 50), (3, 51), (3, 52), (7, 51), (7, 52)])

    def test_two_points_of_one_place(self):
        board = board_of([4, 4], [("num", (), 0)], [RowUse(0, 9, 0, 0), RowUse(1, 9, 0, 0)], [(0, 1)])
        self.settled(board, [(50, 9, 0)], [(50, 9, 0)], [(4, 50)])

    def test_two_makings_of_one_place(self):
        board = Board()
        board.point(4)
        board.make("num", (), 0, 6)
        board.make("row", (0,), 0, 6)
        board.use(NumUse(0, 9, 0))
        self.settled(board, [(6, 9, 0)], [(6, 9, 0)], [(4, 6)])

    def test_two_uses_of_one_place(self):
        board = board_of([4], [("num", (), 0)], [
            NumUse(0, 9, 0), NumUse(0, 9, 1), TakeUse(0, 9, 0, ()), CaseUse(0, 9, 1, ())])
        self.settled(board, [(50, 9, 0), (50, 9, 1)], [(50, 9, 0), (50, 9, 1)], [(4, 50)])

    def test_the_places_are_no_points_and_no_numbers(self):
        board, log = called()
        self.told(
            board, log, [(50, 7, 0), (51, 8, 0), (51, 9, 0), (51, 9, 1), (52, 9, 0)], [(51, 8, 0), (52, 9, 0)],
            [(30, 50), (31, 50), (32, 50), (33, 51), (34, 51), (35, 51), (36, 51), (37, 51), (38, 52)])

    def test_a_board_that_was_laid(self):
        self.settled(
            board_laid("( def a ( let x 1 ( size x ) ) )", 0), [(1, 2, 0)], [(1, 2, 0)],
            [(0, 2), (1, 1), (2, 2), (3, 1)])
        self.settled(
            board_laid("( def a 1 ) ( def b ( add a a ) )", 1), [(0, 1, 0), (0, 1, 1)], [],
            [(0, 0), (1, 1), (2, 0), (3, 0)])

    def test_all_here_rows_and_no_goes_rows(self):
        for which in range(3):
            board = board_laid(PROGRAM, which)
            log = settled(board)
            met, bads, comings = set(), set(), set()
            for word, m, p, _ in log.rows:
                if word == "here":
                    comings.add((board.points[p], board.makes[m].place))
                    for use in board.uses:
                        if use.at == p:
                            met.add((board.makes[m].place, use.place, use.slot))
                            if use.met(board.makes[m]) is None:
                                bads.add((board.makes[m].place, use.place, use.slot))
            self.told(board, log, sorted(met), sorted(bads), sorted(comings))
        self.assertGreater(len(met), 10)
        self.assertGreater(len(bads), 0)

    def test_the_interface(self):
        for name, wanted in (
            ("way", ["log", "k"]), ("chain", ["log", "k"]), ("meetings", ["board", "log"]),
            ("bad_meetings", ["board", "log"]), ("arrivals", ["board", "log"]),
        ):
            self.assertEqual(list(inspect.signature(getattr(ways, name)).parameters), wanted)


class OwnTest(unittest.TestCase):
    def setUp(self):
        self.board, self.log = called()

    def asked(self):
        return [
            way(self.log, 0), way(self.log, 15), chain(self.log, 5), chain(self.log, 15),
            meetings(self.board, self.log), bad_meetings(self.board, self.log), arrivals(self.board, self.log)]

    def given(self):
        return (told(self.board), copy.deepcopy(vars(self.log)))

    def test_what_was_told_and_is_changed_changes_nothing_else(self):
        before = self.given()
        first = self.asked()
        kept = copy.deepcopy(first)
        second = self.asked()
        for each in first:
            each.append(each[0])
            each.reverse()
        self.assertEqual(second, kept)
        self.assertEqual(self.asked(), kept)
        self.assertEqual(self.given(), before)

    def test_what_was_told_holds_when_what_was_handed_in_is_changed(self):
        told_lists = self.asked()
        kept = copy.deepcopy(told_lists)
        self.log.rows.clear()
        self.log.bads.clear()
        self.board.points.clear()
        self.board.uses.clear()
        self.assertEqual(told_lists, kept)

    def test_no_two_lists_are_one(self):
        lists = self.asked() + self.asked() + [
            self.log.rows, self.log.bads, self.board.points, self.board.makes, self.board.uses, self.board.flows]
        self.assertEqual(len({id(each) for each in lists}), 20)


if __name__ == "__main__":
    unittest.main()
