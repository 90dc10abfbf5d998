"""[13] to [16]: makings, uses, their meetings, and boards."""

import inspect
import unittest

from flowkinds import boards
from flowkinds.boards import Board, CallUse, CaseUse, Make, NumUse, RowUse, TakeUse, Use, uses_by_point

# One making of each shape; all of them at point 3 with place 4.
PARTS = {
    "num": (),
    "fn": (10, 11),
    "rec": (("x", 12), ("y", 13), ("z", 14)),
    "tag": ("t", 15),
    "row": (16,),
    "any": (),
}

# Each use with the one shape of PARTS that it meets, and the flows of that.
MEETINGS = [
    (NumUse(3, 7, 0), "num", []),
    (CallUse(3, 7, 0, 20, 21), "fn", [(20, 10), (11, 21)]),
    (TakeUse(3, 7, 0, (("y", 22),)), "rec", [(13, 22)]),
    (TakeUse(3, 7, 0, ()), "rec", []),
    (CaseUse(3, 7, 0, (("s", 24), ("t", 25))), "tag", [(15, 25)]),
    (RowUse(3, 7, 0, 26), "row", [(16, 26)]),
]


def making(shape, parts=None):
    return Make(shape, PARTS[shape] if parts is None else parts, 3, 4)


def told(board):
    return {
        "points": board.points,
        "makes": [one.told() for one in board.makes],
        "uses": [one.told() for one in board.uses],
        "flows": board.flows,
        "root": board.root,
    }


class MakeTest(unittest.TestCase):
    def test_what_it_tells(self):
        for shape, parts in PARTS.items():
            with self.subTest(shape):
                one = Make(shape, parts, 5, 6)
                self.assertEqual((one.shape, one.parts, one.at, one.place), (shape, parts, 5, 6))
                self.assertEqual(one.told(), (shape, parts, 5, 6))
                self.assertIs(type(one.told()), tuple)


class UsesTest(unittest.TestCase):
    def test_their_fields(self):
        fields = (("y", 1), ("x", 2))
        for one, wanted in (
            (NumUse(3, 7, 1), {"at": 3, "place": 7, "slot": 1}),
            (CallUse(3, 7, 1, 8, 9), {"at": 3, "place": 7, "slot": 1, "arg": 8, "out": 9}),
            (TakeUse(3, 7, 1, fields), {"at": 3, "place": 7, "slot": 1, "fields": fields}),
            (CaseUse(3, 7, 1, fields), {"at": 3, "place": 7, "slot": 1, "arms": fields}),
            (RowUse(3, 7, 1, 9), {"at": 3, "place": 7, "slot": 1, "out": 9}),
        ):
            with self.subTest(wanted):
                self.assertEqual({field: getattr(one, field) for field in wanted}, wanted)

    def test_what_they_tell(self):
        pairs = (("y", 1), ("x", 2))
        for slot in (0, 1):
            for one, wanted in (
                (NumUse(3, 7, slot), ("num", 3, 7, slot)),
                (CallUse(3, 7, slot, 8, 9), ("call", 3, 7, slot, 8, 9)),
                (TakeUse(3, 7, slot, pairs), ("take", 3, 7, slot, pairs)),
                (TakeUse(3, 7, slot, ()), ("take", 3, 7, slot, ())),
                (CaseUse(3, 7, slot, pairs), ("case", 3, 7, slot, pairs)),
                (CaseUse(3, 7, slot, ()), ("case", 3, 7, slot, ())),
                (RowUse(3, 7, slot, 9), ("row", 3, 7, slot, 9)),
            ):
                with self.subTest(wanted):
                    self.assertEqual(one.told(), wanted)
                    self.assertIs(type(one.told()), tuple)

    def test_all_stand_straight_under_use(self):
        for one in (NumUse, CallUse, TakeUse, CaseUse, RowUse):
            self.assertEqual(one.__bases__, (Use,))

    def test_the_interface(self):
        arguments = {
            "Make": ["shape", "parts", "at", "place"],
            "NumUse": ["at", "place", "slot"],
            "CallUse": ["at", "place", "slot", "arg", "out"],
            "TakeUse": ["at", "place", "slot", "fields"],
            "CaseUse": ["at", "place", "slot", "arms"],
            "RowUse": ["at", "place", "slot", "out"],
            "Board": [],
        }
        for name, wanted in arguments.items():
            with self.subTest(name):
                self.assertEqual(list(inspect.signature(getattr(boards, name)).parameters), wanted)
        for one in (NumUse, CallUse, TakeUse, CaseUse, RowUse):
            self.assertEqual(list(inspect.signature(one.met).parameters), ["self", "make"])
        methods = {
            "point": ["place"], "make": ["shape", "parts", "at", "place"], "use": ["one"], "flow": ["p", "q"],
            "rooted": ["p"],
        }
        for name, wanted in methods.items():
            self.assertEqual(list(inspect.signature(getattr(Board(), name)).parameters), wanted)


class MeetingsTest(unittest.TestCase):
    def met(self, use, make, wanted):
        with self.subTest(use.told(), make=make.told()):
            before = (use.told(), make.told())
            flows = use.met(make)
            self.assertEqual(flows, wanted)
            if wanted is not None:
                self.assertIs(type(flows), list)
                self.assertTrue(all(type(flow) is tuple for flow in flows))
            self.assertEqual((use.told(), make.told()), before)

    def test_each_making_with_each_use(self):
        for use, meets, flows in MEETINGS:
            for shape in PARTS:
                self.met(use, making(shape), flows if shape == meets else None)

    def test_any_meets_no_use(self):
        for use, _, _ in MEETINGS:
            self.met(use, making("any"), None)
        self.met(CaseUse(3, 7, 0, ()), making("any"), None)

    def test_the_slot_and_the_points_do_not_matter(self):
        self.met(NumUse(8, 9, 1), making("num"), [])
        self.met(NumUse(8, 9, 1), making("row"), None)
        self.met(RowUse(8, 9, 1, 5), making("row"), [(16, 5)])
        self.met(CallUse(8, 9, 1, 5, 6), making("fn"), [(5, 10), (11, 6)])

    def test_alike_points(self):
        self.met(CallUse(3, 7, 0, 3, 3), Make("fn", (3, 3), 3, 4), [(3, 3), (3, 3)])
        self.met(TakeUse(3, 7, 0, (("x", 3), ("y", 3))), Make("rec", (("x", 3), ("y", 3)), 3, 4), [(3, 3), (3, 3)])
        self.met(RowUse(3, 7, 0, 3), Make("row", (3,), 3, 4), [(3, 3)])

    def test_a_take_of_no_fields(self):
        self.met(TakeUse(3, 7, 0, ()), making("rec", ()), [])
        self.met(TakeUse(3, 7, 0, ()), making("rec"), [])

    def test_a_take_of_some_and_of_all_fields(self):
        self.met(TakeUse(3, 7, 0, (("x", 20),)), making("rec"), [(12, 20)])
        self.met(TakeUse(3, 7, 0, (("z", 20),)), making("rec"), [(14, 20)])
        self.met(TakeUse(3, 7, 0, (("x", 20), ("z", 21))), making("rec"), [(12, 20), (14, 21)])
        self.met(TakeUse(3, 7, 0, (("x", 20), ("y", 21), ("z", 22))), making("rec"), [(12, 20), (13, 21), (14, 22)])

    def test_a_take_goes_by_its_own_order(self):
        self.met(TakeUse(3, 7, 0, (("z", 20), ("x", 21))), making("rec"), [(14, 20), (12, 21)])
        self.met(TakeUse(3, 7, 0, (("y", 20), ("z", 21), ("x", 22))), making("rec"), [(13, 20), (14, 21), (12, 22)])

    def test_a_take_of_a_field_that_is_lacking(self):
        self.met(TakeUse(3, 7, 0, (("x", 20),)), making("rec", ()), None)
        for fields in ((("w", 20),), (("w", 20), ("x", 21)), (("x", 20), ("w", 21)), (("x", 1), ("w", 2), ("y", 3))):
            self.met(TakeUse(3, 7, 0, fields), making("rec"), None)

    def test_a_case_with_no_arms(self):
        for shape in PARTS:
            self.met(CaseUse(3, 7, 0, ()), making(shape), None)

    def test_a_case_with_the_tag_and_without_it(self):
        arms = (("s", 20), ("t", 21), ("x", 22))
        for tag, arm in arms:
            self.met(CaseUse(3, 7, 0, arms), making("tag", (tag, 15)), [(15, arm)])
        self.met(CaseUse(3, 7, 0, (("t", 21),)), making("tag"), [(15, 21)])
        self.met(CaseUse(3, 7, 0, (("s", 20), ("x", 21))), making("tag"), None)
        self.met(CaseUse(3, 7, 0, arms), making("tag", ("tt", 15)), None)

    def test_a_word_that_is_like_a_shape(self):
        self.met(CaseUse(3, 7, 0, (("num", 20), ("rec", 21))), making("num"), None)
        self.met(TakeUse(3, 7, 0, (("row", 20),)), making("row"), None)
        self.met(TakeUse(3, 7, 0, (("any", 20),)), making("rec", (("any", 5),)), [(5, 20)])

    def test_a_list_told_is_the_askers_own(self):
        for use, shape, wanted in MEETINGS:
            first = use.met(making(shape))
            first.append((0, 0))
            self.assertEqual(use.met(making(shape)), wanted)


class BoardTest(unittest.TestCase):
    def test_a_new_board(self):
        self.assertEqual(told(Board()), {"points": [], "makes": [], "uses": [], "flows": [], "root": 0})
        for name in ("points", "makes", "uses", "flows"):
            self.assertIs(type(getattr(Board(), name)), list)

    def test_points_are_numbered_as_they_are_made(self):
        board = Board()
        self.assertEqual([board.point(place) for place in (5, 0, 5, 9)], [0, 1, 2, 3])
        self.assertEqual(board.points, [5, 0, 5, 9])
        board.make("num", (), 0, 0)
        board.flow(0, 1)
        self.assertEqual(board.point(7), 4)
        self.assertEqual(board.points, [5, 0, 5, 9, 7])

    def test_the_root(self):
        board = Board()
        for place in range(3):
            board.point(place)
            self.assertEqual(board.root, 0)
        board.rooted(2)
        self.assertEqual(board.root, 2)
        board.point(3)
        self.assertEqual(board.root, 2)
        board.rooted(1)
        self.assertEqual(board.root, 1)
        self.assertEqual(told(board), {"points": [0, 1, 2, 3], "makes": [], "uses": [], "flows": [], "root": 1})

    def test_makings_in_order_doubles_too(self):
        board = Board()
        board.point(0)
        wanted = []
        for shape in list(PARTS) + ["num", "num"]:
            board.make(shape, PARTS[shape], 0, 6)
            wanted.append((shape, PARTS[shape], 0, 6))
            self.assertEqual(told(board)["makes"], wanted)
        self.assertTrue(all(type(one) is Make for one in board.makes))
        self.assertEqual((board.points, board.uses, board.flows), ([0], [], []))

    def test_uses_in_order_doubles_too(self):
        board = Board()
        board.point(0)
        wanted = []
        for use, _, _ in MEETINGS + MEETINGS[:2]:
            board.use(use)
            wanted.append(use.told())
            self.assertEqual(told(board)["uses"], wanted)
        self.assertTrue(all(isinstance(one, Use) for one in board.uses))
        self.assertEqual((board.points, board.makes, board.flows), ([0], [], []))

    def test_flows_in_order_doubles_too(self):
        board = Board()
        for place in range(3):
            board.point(place)
        pairs = [(2, 1), (0, 1), (2, 1), (1, 1), (1, 2), (0, 1)]
        for p, q in pairs:
            board.flow(p, q)
        self.assertEqual(board.flows, pairs)
        self.assertTrue(all(type(flow) is tuple for flow in board.flows))
        self.assertEqual((board.makes, board.uses), ([], []))

    def test_two_boards_beside_one_another(self):
        one, other = Board(), Board()
        one.point(4)
        one.make("num", (), 0, 4)
        one.use(NumUse(0, 4, 0))
        one.flow(0, 0)
        self.assertEqual(told(other), told(Board()))
        self.assertEqual(other.point(8), 0)
        other.point(9)
        other.rooted(1)
        other.make("any", (), 1, 9)
        self.assertEqual(told(one), {
            "points": [4], "makes": [("num", (), 0, 4)], "uses": [("num", 0, 4, 0)], "flows": [(0, 0)], "root": 0})
        self.assertEqual(told(other), {
            "points": [8, 9], "makes": [("any", (), 1, 9)], "uses": [], "flows": [], "root": 1})

    def test_one_use_on_two_boards(self):
        use = CallUse(0, 7, 0, 1, 2)
        one, other = Board(), Board()
        for board in (one, other):
            for place in range(3):
                board.point(place)
        one.use(use)
        other.use(NumUse(1, 7, 1))
        other.use(use)
        other.use(use)
        self.assertEqual(told(one)["uses"], [("call", 0, 7, 0, 1, 2)])
        self.assertEqual(told(other)["uses"], [("num", 1, 7, 1)] + [("call", 0, 7, 0, 1, 2)] * 2)
        self.assertEqual(use.told(), ("call", 0, 7, 0, 1, 2))
        self.assertEqual(use.met(making("fn")), [(1, 10), (11, 2)])

    def test_no_two_lists_are_one(self):
        one, other = Board(), Board()
        lists = [getattr(board, name) for board in (one, other) for name in ("points", "makes", "uses", "flows")]
        self.assertEqual(len({id(each) for each in lists}), 8)

    def test_the_uses_of_each_point(self):
        board = Board()
        self.assertEqual(uses_by_point(board), {})
        for place in range(4):
            board.point(place)
        for at in (3, 1, 3, 0, 1, 3):
            board.use(NumUse(at, 9, 0))
        self.assertEqual(uses_by_point(board), {3: [0, 2, 5], 1: [1, 4], 0: [3]})

    def test_a_board_somewhat_beyond_the_bounds(self):
        board = Board()
        for number in range(500):
            self.assertEqual(board.point(number), number)
            board.make("num", (), number, 0)
            board.use(NumUse(number, 0, 0))
            board.flow(number, 0)
        self.assertEqual([len(each) for each in (board.points, board.makes, board.uses, board.flows)], [500] * 4)


if __name__ == "__main__":
    unittest.main()
