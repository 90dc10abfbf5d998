"""[32], [33] and [34]: small kinds on boards, and which of them a paper bears."""

import copy
import inspect
import random
import unittest

from flowkinds import bearing
from flowkinds.bearing import bears, lower, paper_of_kind, upper
from flowkinds.boards import Board, CallUse, CaseUse, Make, NumUse, RowUse, TakeUse
from flowkinds.homes import homes_of
from flowkinds.kinds import small_kinds, under
from flowkinds.laying import laid
from flowkinds.papers import Paper, pasted
from flowkinds.polar import paper_of
from flowkinds.reading import read
from flowkinds.settling import settled
from flowkinds.shortening import short_of

ANY = ("any",)
NUM = ("num",)
UNIT = ("rec", ())
NONE = ("choice", ())
PAIR = ("rec", (("x", NUM), ("y", ANY)))
EITHER = ("choice", (("s", NUM), ("t", ANY)))

# Each shape within each other that has parts, the first part turned.
DEEP = (
    "fn", ("fn", ("row", EITHER), PAIR), ("choice", (("a", ("row", ("fn", NUM, NUM))), ("b", ("rec", (("z", NONE),))))))

PROGRAM = """( def twice ( fn f ( fn x ( call f ( call f x ) ) ) ) )
( def down ( fn n ( case ( less n 1 ) yes u n no v ( call down ( sub n 1 ) ) ) ) )
( def all ( let r ( rec a twice b ( row 1 2 ) ) ( call ( call ( get r a ) down ) ( at ( get r b ) 0 3 ) ) ) )
( def sum ( fn l ( case l nil u 0 cons c ( add ( get c head ) ( call sum ( get c tail ) ) ) ) ) )
( def list ( fn n ( case ( less n 1 ) yes u ( tag nil ( rec ) )
no v ( tag cons ( rec head n tail ( call list ( sub n 1 ) ) ) ) ) ) )"""


def told(board):
    return copy.deepcopy((
        board.points, [one.told() for one in board.makes], [one.told() for one in board.uses], board.flows, board.root))


def board_that_holds_something():
    board = Board()
    for place in (5, 6, 7):
        board.point(place)
    board.make("row", (2,), 1, 4)
    board.use(RowUse(1, 3, 1, 0))
    board.flow(0, 1)
    board.flow(0, 1)
    board.rooted(2)
    return board


def moved_make(make, by):
    shape, parts, at, place = make
    if shape == "rec":
        parts = tuple((word, point + by) for word, point in parts)
    elif shape == "tag":
        parts = (parts[0], parts[1] + by)
    else:
        parts = tuple(point + by for point in parts)
    return (shape, parts, at + by, place)


def moved_use(use, by):
    if use[0] in ("take", "case"):
        return (use[0], use[1] + by, use[2], use[3], tuple((word, point + by) for word, point in use[4]))
    return (use[0], use[1] + by, use[2], use[3]) + tuple(point + by for point in use[4:])


def some_kind(chance, nest):
    deep, flat = ["any", "num", "fn", "rec", "choice", "row"], ["any", "num", "rec0", "choice0"]
    shape = chance.choice(deep if nest > 1 else flat)
    if shape in ("any", "num"):
        return (shape,)
    if shape.endswith("0"):
        return (shape[:-1], ())
    if shape == "row":
        return ("row", some_kind(chance, nest - 1))
    if shape == "fn":
        return ("fn", some_kind(chance, nest - 1), some_kind(chance, nest - 1))
    words = sorted(chance.sample("abcdef", chance.randrange(3)))
    return (shape, tuple((word, some_kind(chance, nest - 1)) for word in words))


def changed(chance, kind):
    if chance.random() < 0.15:
        return chance.choice([ANY, NUM, UNIT, NONE])
    if kind[0] == "fn":
        return ("fn", changed(chance, kind[1]), changed(chance, kind[2]))
    if kind[0] == "row":
        return ("row", changed(chance, kind[1]))
    if kind[0] in ("rec", "choice"):
        members = {word: changed(chance, part) for word, part in kind[1] if chance.random() < 0.9}
        if chance.random() < 0.1:
            members["g"] = NUM
        return (kind[0], tuple(sorted(members.items())))
    return kind


# Of the few outs and ins some are alike, and some are not come to.
def some_paper(chance):
    outs, ins = chance.randrange(2, 7), chance.randrange(1, 5)
    some_out, some_in = (lambda: chance.randrange(outs)), (lambda: chance.randrange(ins))

    def making():
        return chance.choice([
            NUM, UNIT, ("fn", some_in(), some_out()), ("row", some_out()), ("tag", "x", some_out()),
            ("rec", (("x", some_out()),))])

    def use():
        return chance.choice([
            NUM, ("take", ()), ("call", some_out(), some_in()), ("row", some_in()), ("case", (("x", some_in()),)),
            ("take", (("x", some_in()),))])

    return Paper(
        [(making(),) for _ in range(outs)], [tuple(use() for _ in range(chance.randrange(2))) for _ in range(ins)],
        sorted({(some_in(), some_out()) for _ in range(chance.randrange(3))}))


def papers_of_programs():
    program = read(PROGRAM)
    homes = homes_of(program)
    boards = [laid(program, homes, which) for which in range(len(program.roots))]
    return [paper_of(board, settled(board))[0] for board in boards]


class OnBoardTest(unittest.TestCase):
    maxDiff = None

    def put(self, put, kind, points, makes, uses):
        with self.subTest(kind):
            board = Board()
            self.assertEqual(put(board, kind), 0)
            self.assertEqual(told(board), ([0] * points, makes, uses, [], 0))
            for one in board.makes:
                self.assertIs(type(one), Make)
            board = board_that_holds_something()
            before = told(board)
            self.assertEqual(put(board, kind), 3)
            self.assertEqual(told(board), (
                before[0] + [0] * points, before[1] + [moved_make(one, 3) for one in makes],
                before[2] + [moved_use(one, 3) for one in uses], before[3], 2))

    def test_lower_of_each_shape(self):
        self.put(lower, ANY, 1, [("any", (), 0, 0)], [])
        self.put(lower, NUM, 1, [("num", (), 0, 0)], [])
        self.put(lower, ("fn", ANY, NUM), 3, [("num", (), 2, 0), ("fn", (1, 2), 0, 0)], [])
        self.put(lower, ("fn", NUM, ANY), 3, [("any", (), 2, 0), ("fn", (1, 2), 0, 0)], [("num", 1, 0, 0)])
        self.put(lower, UNIT, 1, [("rec", (), 0, 0)], [])
        self.put(
            lower, PAIR, 3, [("num", (), 1, 0), ("any", (), 2, 0), ("rec", (("x", 1), ("y", 2)), 0, 0)], [])
        self.put(lower, NONE, 1, [], [])
        self.put(
            lower, EITHER, 3,
            [("num", (), 1, 0), ("tag", ("s", 1), 0, 0), ("any", (), 2, 0), ("tag", ("t", 2), 0, 0)], [])
        self.put(lower, ("row", NUM), 2, [("num", (), 1, 0), ("row", (1,), 0, 0)], [])

    def test_upper_of_each_shape(self):
        self.put(upper, ANY, 1, [], [])
        self.put(upper, NUM, 1, [], [("num", 0, 0, 0)])
        self.put(upper, ("fn", NUM, ANY), 3, [("num", (), 1, 0)], [("call", 0, 0, 0, 1, 2)])
        self.put(upper, ("fn", ANY, NUM), 3, [("any", (), 1, 0)], [("num", 2, 0, 0), ("call", 0, 0, 0, 1, 2)])
        self.put(upper, UNIT, 1, [], [("take", 0, 0, 0, ())])
        self.put(upper, PAIR, 3, [], [("num", 1, 0, 0), ("take", 0, 0, 0, (("x", 1), ("y", 2)))])
        self.put(upper, NONE, 1, [], [("case", 0, 0, 0, ())])
        self.put(upper, EITHER, 3, [], [("num", 1, 0, 0), ("case", 0, 0, 0, (("s", 1), ("t", 2)))])
        self.put(upper, ("row", NUM), 2, [], [("num", 1, 0, 0), ("row", 0, 0, 0, 1)])

    def test_parts_of_parts_come_in_between(self):
        inner = ("rec", (("a", ("row", NUM)), ("b", ("row", ANY))))
        self.put(lower, inner, 5, [
            ("num", (), 2, 0), ("row", (2,), 1, 0), ("any", (), 4, 0), ("row", (4,), 3, 0),
            ("rec", (("a", 1), ("b", 3)), 0, 0)], [])
        self.put(upper, inner, 5, [], [
            ("num", 2, 0, 0), ("row", 1, 0, 0, 2), ("row", 3, 0, 0, 4), ("take", 0, 0, 0, (("a", 1), ("b", 3)))])
        arms = ("choice", (("a", ("row", NUM)), ("b", ("row", NUM))))
        self.put(lower, arms, 5, [
            ("num", (), 2, 0), ("row", (2,), 1, 0), ("tag", ("a", 1), 0, 0), ("num", (), 4, 0), ("row", (4,), 3, 0),
            ("tag", ("b", 3), 0, 0)], [])
        self.put(upper, arms, 5, [], [
            ("num", 2, 0, 0), ("row", 1, 0, 0, 2), ("num", 4, 0, 0), ("row", 3, 0, 0, 4),
            ("case", 0, 0, 0, (("a", 1), ("b", 3)))])

    # Points: 0 the fn, 1 its argument (2 and 3: that one's argument and answer), 4 its answer.
    def test_fn_of_a_fn(self):
        kind = ("fn", ("fn", NUM, ("row", NUM)), NUM)
        self.put(lower, kind, 6, [
            ("num", (), 2, 0), ("num", (), 5, 0), ("fn", (1, 5), 0, 0)],
            [("num", 4, 0, 0), ("row", 3, 0, 0, 4), ("call", 1, 0, 0, 2, 3)])
        self.put(upper, kind, 6, [
            ("num", (), 4, 0), ("row", (4,), 3, 0), ("fn", (2, 3), 1, 0)],
            [("num", 2, 0, 0), ("num", 5, 0, 0), ("call", 0, 0, 0, 1, 5)])

    def test_all_shapes_at_once(self):
        self.put(
            lower, DEEP, 16,
            [
                ("num", (), 4, 0), ("tag", ("s", 4), 3, 0), ("any", (), 5, 0), ("tag", ("t", 5), 3, 0),
                ("row", (3,), 2, 0), ("num", (), 13, 0), ("fn", (12, 13), 11, 0), ("row", (11,), 10, 0),
                ("tag", ("a", 10), 9, 0), ("rec", (("z", 15),), 14, 0), ("tag", ("b", 14), 9, 0), ("fn", (1, 9), 0, 0),
            ],
            [
                ("num", 7, 0, 0), ("take", 6, 0, 0, (("x", 7), ("y", 8))), ("call", 1, 0, 0, 2, 6), ("num", 12, 0, 0),
            ])

    def test_kinds_of_uses(self):
        board = Board()
        for kind in (NUM, ("fn", ANY, ANY), UNIT, NONE, ("row", ANY)):
            upper(board, kind)
        self.assertEqual([type(one) for one in board.uses], [NumUse, CallUse, TakeUse, CaseUse, RowUse])

    def test_one_behind_the_other(self):
        board = Board()
        found = [lower(board, NUM), upper(board, PAIR), lower(board, ("row", NUM)), upper(board, ANY)]
        self.assertEqual(found, [0, 1, 4, 6])
        self.assertEqual(board.root, 0)
        self.assertEqual(len(board.points), 7)

    def test_a_kind_that_was_handed_in_stays(self):
        kind = copy.deepcopy(DEEP)
        for put in (lower, upper):
            put(Board(), kind)
            self.assertEqual(kind, DEEP)


class PaperOfKindTest(unittest.TestCase):
    maxDiff = None

    def paper(self, kind, outs, ins=()):
        with self.subTest(kind):
            found = paper_of_kind(kind)
            self.assertIs(type(found), Paper)
            self.assertEqual((found.outs, found.ins, found.flows), (list(outs), list(ins), []))

    def test_each_shape(self):
        self.paper(ANY, [(ANY,)])
        self.paper(NUM, [(NUM,)])
        self.paper(("fn", NUM, ANY), [(("fn", 0, 1),), (ANY,)], [(NUM,)])
        self.paper(("fn", ANY, NUM), [(("fn", 0, 1),), (NUM,)], [()])
        self.paper(UNIT, [(UNIT,)])
        self.paper(PAIR, [(("rec", (("x", 1), ("y", 2))),), (NUM,), (ANY,)])
        self.paper(NONE, [()])
        self.paper(EITHER, [(("tag", "s", 1), ("tag", "t", 2)), (NUM,), (ANY,)])
        self.paper(("row", NUM), [(("row", 1),), (NUM,)])

    def test_each_shape_turned(self):
        for kind, uses, ins in (
            (ANY, (), []), (NUM, (NUM,), []), (UNIT, (("take", ()),), []), (NONE, (("case", ()),), []),
            (PAIR, (("take", (("x", 1), ("y", 2))),), [(NUM,), ()]),
            (EITHER, (("case", (("s", 1), ("t", 2))),), [(NUM,), ()]), (("row", NUM), (("row", 1),), [(NUM,)]),
        ):
            self.paper(("fn", kind, NUM), [(("fn", 0, 1),), (NUM,)], [uses] + ins)
        self.paper(("fn", ("fn", NUM, NUM), ANY), [(("fn", 0, 1),), (ANY,), (NUM,)], [(("call", 2, 1),), (NUM,)])

    # By coming to them: out 1 is the answer, then the out that the argument is called with.
    def test_it_is_orderly(self):
        self.paper(
            DEEP,
            [
                (("fn", 0, 1),), (("tag", "a", 3), ("tag", "b", 4)), (("row", 5),), (("row", 6),),
                (("rec", (("z", 7),)),), (("tag", "s", 8), ("tag", "t", 9)), (("fn", 4, 10),), (), (NUM,), (ANY,),
                (NUM,),
            ],
            [(("call", 2, 1),), (("take", (("x", 2), ("y", 3))),), (NUM,), (), (NUM,)])

    # Parts that are alike stay two; the paper is not made short.
    def test_it_is_not_short(self):
        self.paper(("rec", (("x", NUM), ("y", NUM))), [(("rec", (("x", 1), ("y", 2))),), (NUM,), (NUM,)])

    def test_as_the_words_go(self):
        chance = random.Random(2)
        for _ in range(100):
            kind = some_kind(chance, 6)
            board = Board()
            board.rooted(lower(board, kind))
            wanted = paper_of(board, settled(board))[0]
            self.paper(kind, wanted.outs, wanted.ins)


class BearsTest(unittest.TestCase):
    def asked(self, paper, kind, wanted):
        before = copy.deepcopy((vars(paper), kind))
        with self.subTest(paper=before[0], kind=kind):
            self.assertIs(bears(paper, kind), wanted)
            self.assertEqual((vars(paper), kind), before)

    def test_each_shape(self):
        ones = {
            "num": ([(NUM,)], []), "fn": ([(("fn", 0, 0),)], [()]), "rec": ([(("rec", (("x", 1),)),), (NUM,)], []),
            "choice": ([(("tag", "x", 1),), (NUM,)], []), "row": ([(("row", 1),), (NUM,)], []), "any": ([(ANY,)], []),
        }
        kinds = {
            "num": NUM, "fn": ("fn", ANY, ANY), "rec": ("rec", (("x", NUM),)), "choice": ("choice", (("x", NUM),)),
            "row": ("row", NUM), "any": ANY,
        }
        for shape, (outs, ins) in ones.items():
            for other, kind in kinds.items():
                self.asked(Paper(outs, ins, []), kind, shape == other or other == "any")

    def test_nothing_made_bears_all(self):
        for kind in small_kinds("x") + [DEEP, PAIR, EITHER]:
            self.asked(Paper([()], [], []), kind, True)

    def test_any_is_borne_by_each_paper(self):
        ins = [(NUM, ("call", 0, 0), ("take", (("x", 0),)), ("case", ()), ("row", 0))]
        for makings in ((), (NUM,), (ANY,), (NUM, ANY, ("fn", 0, 0), ("rec", ()), ("tag", "t", 0), ("row", 0))):
            self.asked(Paper([makings], ins, [(0, 0)]), ANY, True)
        for paper in papers_of_programs():
            self.asked(paper, ANY, True)

    def test_more_makings_than_one(self):
        self.asked(Paper([(NUM, UNIT)], [], []), NUM, False)
        self.asked(Paper([(NUM, UNIT)], [], []), UNIT, False)
        self.asked(Paper([(("tag", "s", 1), ("tag", "t", 0)), (NUM,)], [], []), EITHER, True)
        self.asked(Paper([(("tag", "s", 1), ("tag", "u", 0)), (NUM,)], [], []), EITHER, False)
        self.asked(Paper([(("row", 1), ("row", 2)), (NUM,), (ANY,)], [], []), ("row", NUM), False)
        self.asked(Paper([(("row", 1), ("row", 2)), (NUM,), ()], [], []), ("row", NUM), True)

    def test_fields(self):
        paper = Paper([(("rec", (("x", 1), ("y", 2), ("z", 2))),), (NUM,), (UNIT,)], [], [])
        self.asked(paper, PAIR, True)
        self.asked(paper, UNIT, True)
        self.asked(paper, ("rec", (("y", UNIT), ("z", UNIT))), True)
        self.asked(paper, ("rec", (("w", ANY),)), False)
        self.asked(paper, ("rec", (("x", UNIT),)), False)

    # What goes into the argument comes out as the answer.
    def test_flows_of_the_paper(self):
        same = Paper([(("fn", 0, 1),), ()], [()], [(0, 1)])
        for one in small_kinds("x"):
            for other in small_kinds("x"):
                self.asked(same, ("fn", one, other), under(one, other))
        apart = Paper([(("fn", 0, 1),), ()], [()], [])
        self.asked(apart, ("fn", NUM, UNIT), True)

    def test_uses_of_the_paper(self):
        paper = Paper([(("fn", 0, 1),), (NUM,)], [(NUM,)], [])
        self.asked(paper, ("fn", NUM, NUM), True)
        self.asked(paper, ("fn", NONE, NUM), True)
        self.asked(paper, ("fn", NONE, ANY), True)
        self.asked(paper, ("fn", ANY, NUM), False)
        self.asked(paper, ("fn", UNIT, NUM), False)
        self.asked(paper, ("fn", NUM, UNIT), False)

    # Only out 0 counts, and what is come to from it.
    def test_what_is_not_come_to(self):
        paper = Paper([(NUM,), (UNIT,)], [(("call", 1, 0),)], [(0, 1)])
        self.asked(paper, NUM, True)
        self.asked(paper, UNIT, False)

    def test_round_and_round(self):
        rows = Paper([(("row", 0),)], [], [])
        self.asked(rows, ("row", ("row", ("row", ANY))), True)
        self.asked(rows, ("row", ("row", ("row", NUM))), False)
        outs = [(("tag", "nil", 1), ("tag", "cons", 2)), (UNIT,), (("rec", (("head", 3), ("tail", 0))),), (NUM,)]
        nil = Paper(outs, [], [])
        kind = ("choice", (("cons", ("rec", (("head", NUM), ("tail", ANY)))), ("nil", UNIT)))
        self.asked(nil, kind, True)
        self.asked(nil, ("choice", (("cons", ("rec", (("tail", kind),))), ("nil", UNIT))), True)
        self.asked(nil, ("choice", (("cons", ("rec", (("tail", NUM),))), ("nil", UNIT))), False)

    def test_papers_of_programs(self):
        twice, down, whole, total, made = papers_of_programs()
        num_to_num = ("fn", NUM, NUM)
        self.asked(twice, ("fn", num_to_num, num_to_num), True)
        self.asked(twice, ("fn", ("fn", NUM, UNIT), num_to_num), False)
        self.asked(twice, ("fn", ("fn", ANY, UNIT), ("fn", NUM, UNIT)), True)
        self.asked(down, num_to_num, True)
        self.asked(down, ("fn", UNIT, NUM), False)
        self.asked(whole, NUM, True)
        self.asked(whole, UNIT, False)
        link = ("choice", (("cons", ("rec", (("head", NUM), ("tail", ("choice", (("nil", UNIT),)))))), ("nil", UNIT)))
        self.asked(total, ("fn", link, NUM), True)
        self.asked(total, ("fn", ("choice", (("nil", ANY), ("other", ANY))), NUM), False)
        self.asked(made, ("fn", NUM, ("choice", (("cons", ("rec", (("head", NUM),))), ("nil", UNIT)))), True)
        self.asked(made, ("fn", NUM, ("choice", (("cons", ANY),))), False)

    def test_just_when_the_one_is_under_the_other(self):
        for one in small_kinds("x"):
            paper = paper_of_kind(one)
            for other in small_kinds("x") + small_kinds("y"):
                self.asked(paper, other, under(one, other))

    def test_likewise_of_larger_kinds(self):
        chance = random.Random(5)
        found = {True: 0, False: 0}
        for _ in range(300):
            one = some_kind(chance, 6)
            other = changed(chance, one)
            self.asked(paper_of_kind(one), other, under(one, other))
            self.asked(paper_of_kind(other), one, under(other, one))
            found[under(one, other)] += 1
        self.assertGreater(min(found.values()), 40)

    def test_what_bears_a_kind_bears_all_that_it_is_under(self):
        kinds = small_kinds("x")
        for paper in papers_of_programs():
            borne = [kind for kind in kinds if bears(paper, kind)]
            for kind in borne:
                self.assertEqual([other for other in kinds if under(kind, other) and other not in borne], [])

    def test_a_paper_and_its_short_one_bear_the_same(self):
        chance = random.Random(6)
        papers = papers_of_programs() + [paper_of_kind(some_kind(chance, 6)) for _ in range(40)]
        papers += [some_paper(chance) for _ in range(60)]
        kinds = small_kinds("x") + small_kinds("a") + [some_kind(chance, 4) for _ in range(40)]
        count, true, false = 0, 0, 0
        for paper in papers:
            short = short_of(paper)[0]
            count += len(short.outs) < len(paper.outs)
            borne = [bears(paper, kind) for kind in kinds]
            self.assertEqual([bears(short, kind) for kind in kinds], borne)
            true += borne.count(True)
            false += borne.count(False)
        self.assertGreater(count, 20)
        self.assertGreater(min(true, false), 1000)

    def test_as_the_words_go(self):
        chance = random.Random(7)
        for paper in papers_of_programs():
            for _ in range(40):
                kind = some_kind(chance, 4)
                board = Board()
                one = pasted(board, paper, 0)
                other = upper(board, kind)
                board.flow(one, other)
                self.asked(paper, kind, settled(board).bads == [])


class OwnTest(unittest.TestCase):
    def test_what_is_told_is_the_askers_own(self):
        for kind in (NUM, NONE, DEEP):
            one, other = paper_of_kind(kind), paper_of_kind(kind)
            lists = [one.outs, one.ins, one.flows, other.outs, other.ins, other.flows]
            self.assertEqual(len({id(part) for part in lists}), 6)
            before = copy.deepcopy(vars(other))
            for part in lists[:3]:
                part.append(7)
            self.assertEqual(vars(other), before)
            self.assertEqual(vars(paper_of_kind(kind)), before)

    def test_boards_are_apart(self):
        first, second = Board(), Board()
        lower(first, DEEP)
        before = told(first)
        upper(second, DEEP)
        lower(second, DEEP)
        self.assertEqual(told(first), before)
        paper_of_kind(DEEP)
        bears(paper_of_kind(DEEP), DEEP)
        self.assertEqual(told(first), before)

    def test_beyond_the_bounds(self):
        kind, other = NUM, ANY
        for _ in range(60):
            kind, other = ("row", kind), ("row", other)
        self.assertIs(bears(paper_of_kind(kind), other), True)
        self.assertIs(bears(paper_of_kind(other), kind), False)
        words = [f"a{k:02}" for k in range(90)]
        kind = ("rec", tuple((word, NUM) for word in words))
        self.assertIs(bears(paper_of_kind(kind), kind), True)
        self.assertIs(bears(paper_of_kind(kind), ("rec", kind[1] + (("b", ANY),))), False)
        outs = [(("row", k + 1),) for k in range(1100)] + [(NUM,)]
        self.assertIs(bears(Paper(outs, [(NUM,)] * 1100, [(5, 7)]), ("row", ("row", ANY))), True)

    def test_the_interface(self):
        for name, wanted in (
            ("lower", "(board, kind)"), ("upper", "(board, kind)"), ("paper_of_kind", "(kind)"),
            ("bears", "(paper, kind)"),
        ):
            self.assertEqual(str(inspect.signature(vars(bearing)[name])), wanted)


if __name__ == "__main__":
    unittest.main()
