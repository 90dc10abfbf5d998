"""[19] and [20]: definitions laid on boards, without papers and with them."""

import copy
import inspect
import unittest

from flowkinds.boards import Board, CallUse, CaseUse, Make, NumUse, RowUse, TakeUse
from flowkinds.homes import homes_of
from flowkinds.laying import laid
from flowkinds.papers import Paper
from flowkinds.reading import Program, read
from flowkinds.weights import weights_of

USES = {"num": NumUse, "call": CallUse, "take": TakeUse, "case": CaseUse, "row": RowUse}

EVERY_FORM = """( def f ( fn x ( let y ( rec a x b 2 ) ( call f ( get y a ) ) ) ) )
( def g ( case ( tag t ( row 1 ( join ( row ) ( row ) ) ) ) t x ( at x 0 ( size x ) ) s z ( call f z ) ) )
( def h ( less ( add 1 2 ) ( sub 3 ( call f g ) ) ) )"""

# Forms that stand one within the other, each told by the place where it begins.
FLOORS = [
    lambda place: [("size", place + 1)],
    lambda place: [("fn", "x", place + 1)],
    lambda place: [("get", place + 1, "x")],
    lambda place: [("tag", "t", place + 1)],
    lambda place: [("rec", (("x", place + 1),))],
    lambda place: [("row", (place + 1,))],
    lambda place: [("let", "x", place + 1, place + 2), ("num", 1)],
    lambda place: [("call", place + 1, place + 2), ("num", 1)],
    lambda place: [("case", place + 1, (("t", "x", place + 2),)), ("num", 1)],
    lambda place: [("less", place + 1, place + 2), ("num", 1)],
]


def told(board):
    return {
        "points": board.points,
        "makes": [one.told() for one in board.makes],
        "uses": [one.told() for one in board.uses],
        "flows": board.flows,
        "root": board.root,
    }


class LayingCase(unittest.TestCase):
    maxDiff = None

    def laid(self, text, which=0, points=(), makes=(), uses=(), flows=(), papers=None):
        self.compared(text, which, {
            "points": list(points), "makes": list(makes), "uses": list(uses), "flows": list(flows), "root": 0}, papers)
        if papers is None:
            # Behind one more definition of one place all places are one greater.
            self.compared(f"( def before 1 ) {text}", which + 1, {
                "points": [place + 1 for place in points],
                "makes": [(shape, parts, at, place + 1) for shape, parts, at, place in makes],
                "uses": [use[:2] + (use[2] + 1,) + use[3:] for use in uses],
                "flows": list(flows), "root": 0}, papers)

    def compared(self, text, which, wanted, papers):
        program = read(text)
        homes = homes_of(program)
        weights_of(program, homes)
        board = laid(program, homes, which) if papers is None else laid(program, homes, which, papers)
        with self.subTest(text):
            self.assertIs(type(board), Board)
            self.assertEqual(told(board), wanted)


# In a definition that comes first, point 0 is its s, point 1 what comes of its
# EXPR, and both have place 0.
class FormsTest(LayingCase):
    def test_num(self):
        self.laid("( def a 7 )", points=[0, 0], makes=[("num", (), 1, 0)], flows=[(1, 0)])

    def test_fn(self):
        self.laid(
            "( def a ( fn x 1 ) )", points=[0, 0, 0, 1], makes=[("num", (), 3, 1), ("fn", (2, 3), 1, 0)],
            flows=[(1, 0)])

    def test_call(self):
        self.laid(
            "( def a ( call 1 2 ) )", points=[0, 0, 1, 2], makes=[("num", (), 2, 1), ("num", (), 3, 2)],
            uses=[("call", 2, 0, 0, 3, 1)], flows=[(1, 0)])

    def test_let(self):
        self.laid(
            "( def a ( let x 1 2 ) )", points=[0, 0, 1, 2], makes=[("num", (), 2, 1), ("num", (), 3, 2)],
            flows=[(3, 1), (1, 0)])

    def test_rec(self):
        self.laid("( def a ( rec ) )", points=[0, 0], makes=[("rec", (), 1, 0)], flows=[(1, 0)])
        self.laid(
            "( def a ( rec x 1 ) )", points=[0, 0, 1], makes=[("num", (), 2, 1), ("rec", (("x", 2),), 1, 0)],
            flows=[(1, 0)])
        self.laid(
            "( def a ( rec y 1 x ( rec ) ) )", points=[0, 0, 1, 2],
            makes=[("num", (), 2, 1), ("rec", (), 3, 2), ("rec", (("y", 2), ("x", 3)), 1, 0)], flows=[(1, 0)])

    def test_get(self):
        self.laid(
            "( def a ( get ( rec ) x ) )", points=[0, 0, 1], makes=[("rec", (), 2, 1)],
            uses=[("take", 2, 0, 0, (("x", 1),))], flows=[(1, 0)])

    def test_tag(self):
        self.laid(
            "( def a ( tag t 1 ) )", points=[0, 0, 1], makes=[("num", (), 2, 1), ("tag", ("t", 2), 1, 0)],
            flows=[(1, 0)])

    def test_case(self):
        self.laid(
            "( def a ( case 1 t x 2 ) )", points=[0, 0, 1, 0, 2], makes=[("num", (), 2, 1), ("num", (), 4, 2)],
            uses=[("case", 2, 0, 0, (("t", 3),))], flows=[(4, 1), (1, 0)])
        self.laid(
            "( def a ( case 1 t x 2 s y y ) )", points=[0, 0, 1, 0, 2, 0, 3],
            makes=[("num", (), 2, 1), ("num", (), 4, 2)], uses=[("case", 2, 0, 0, (("t", 3), ("s", 5)))],
            flows=[(4, 1), (5, 6), (6, 1), (1, 0)])

    def test_row(self):
        self.laid("( def a ( row ) )", points=[0, 0, 0], makes=[("row", (2,), 1, 0)], flows=[(1, 0)])
        self.laid(
            "( def a ( row 1 ( rec ) ) )", points=[0, 0, 0, 1, 2],
            makes=[("num", (), 3, 1), ("rec", (), 4, 2), ("row", (2,), 1, 0)], flows=[(3, 2), (4, 2), (1, 0)])

    def test_at(self):
        self.laid(
            "( def a ( at 1 2 3 ) )", points=[0, 0, 1, 2, 3],
            makes=[("num", (), 2, 1), ("num", (), 3, 2), ("num", (), 4, 3)],
            uses=[("row", 2, 0, 0, 1), ("num", 3, 0, 1)], flows=[(4, 1), (1, 0)])

    def test_join(self):
        self.laid(
            "( def a ( join 1 2 ) )", points=[0, 0, 0, 1, 2],
            makes=[("num", (), 3, 1), ("num", (), 4, 2), ("row", (2,), 1, 0)],
            uses=[("row", 3, 0, 0, 2), ("row", 4, 0, 1, 2)], flows=[(1, 0)])

    def test_size(self):
        self.laid(
            "( def a ( size 1 ) )", points=[0, 0, 0, 1], makes=[("num", (), 3, 1), ("num", (), 1, 0)],
            uses=[("row", 3, 0, 0, 2)], flows=[(1, 0)])

    def test_add_and_sub(self):
        for form in ("add", "sub"):
            self.laid(
                f"( def a ( {form} 1 2 ) )", points=[0, 0, 1, 2],
                makes=[("num", (), 2, 1), ("num", (), 3, 2), ("num", (), 1, 0)],
                uses=[("num", 2, 0, 0), ("num", 3, 0, 1)], flows=[(1, 0)])

    def test_less(self):
        self.laid(
            "( def a ( less 1 2 ) )", points=[0, 0, 0, 1, 2],
            makes=[
                ("num", (), 3, 1), ("num", (), 4, 2), ("rec", (), 2, 0), ("tag", ("yes", 2), 1, 0),
                ("tag", ("no", 2), 1, 0)],
            uses=[("num", 3, 0, 0), ("num", 4, 0, 1)], flows=[(1, 0)])

    def test_the_kinds_of_what_is_told(self):
        program = read(EVERY_FORM)
        board = laid(program, homes_of(program), 2)
        for field in (board.points, board.makes, board.uses, board.flows):
            self.assertIs(type(field), list)
        for one in board.makes:
            self.assertIs(type(one), Make)
            self.assertIs(type(one.parts), tuple)
        for one in board.uses:
            self.assertIs(type(one), USES[one.told()[0]])
        self.assertTrue(all(type(flow) is tuple for flow in board.flows))


# What stands within a form is laid whole ahead of the form's own uses, makings
# and flows, and behind its new points.
class OrderTest(LayingCase):
    def test_call(self):
        self.laid(
            "( def a ( call ( get 1 x ) ( get 2 y ) ) )", points=[0, 0, 1, 2, 3, 4],
            makes=[("num", (), 3, 2), ("num", (), 5, 4)],
            uses=[("take", 3, 1, 0, (("x", 2),)), ("take", 5, 3, 0, (("y", 4),)), ("call", 2, 0, 0, 4, 1)],
            flows=[(1, 0)])

    def test_case(self):
        self.laid(
            "( def a ( case ( get 1 x ) t v ( size v ) s w ( let z w 2 ) ) )",
            points=[0, 0, 1, 2, 0, 3, 3, 4, 0, 5, 6, 7], makes=[("num", (), 3, 2), ("num", (), 5, 3), ("num", (), 11, 7)],
            uses=[("take", 3, 1, 0, (("x", 2),)), ("row", 7, 3, 0, 6), ("case", 2, 0, 0, (("t", 4), ("s", 8)))],
            flows=[(4, 7), (5, 1), (8, 10), (11, 9), (9, 1), (1, 0)])

    def test_at(self):
        self.laid(
            "( def a ( at ( get 1 x ) ( size 2 ) ( let y 3 4 ) ) )",
            points=[0, 0, 1, 2, 3, 3, 4, 5, 6, 7],
            makes=[("num", (), 3, 2), ("num", (), 6, 4), ("num", (), 4, 3), ("num", (), 8, 6), ("num", (), 9, 7)],
            uses=[("take", 3, 1, 0, (("x", 2),)), ("row", 6, 3, 0, 5), ("row", 2, 0, 0, 1), ("num", 4, 0, 1)],
            flows=[(9, 7), (7, 1), (1, 0)])

    def test_join(self):
        self.laid(
            "( def a ( join ( row 1 ) ( get 2 x ) ) )", points=[0, 0, 0, 1, 1, 2, 3, 4],
            makes=[("num", (), 5, 2), ("row", (4,), 3, 1), ("num", (), 7, 4), ("row", (2,), 1, 0)],
            uses=[("take", 7, 3, 0, (("x", 6),)), ("row", 3, 0, 0, 2), ("row", 6, 0, 1, 2)], flows=[(5, 4), (1, 0)])

    def test_size_and_add(self):
        self.laid(
            "( def a ( add ( size 1 ) ( sub 2 3 ) ) )", points=[0, 0, 1, 1, 2, 3, 4, 5],
            makes=[
                ("num", (), 4, 2), ("num", (), 2, 1), ("num", (), 6, 4), ("num", (), 7, 5), ("num", (), 5, 3),
                ("num", (), 1, 0)],
            uses=[("row", 4, 1, 0, 3), ("num", 6, 3, 0), ("num", 7, 3, 1), ("num", 2, 0, 0), ("num", 5, 0, 1)],
            flows=[(1, 0)])

    def test_less(self):
        self.laid(
            "( def a ( less ( get 1 x ) ( get 2 y ) ) )", points=[0, 0, 0, 1, 2, 3, 4],
            makes=[
                ("num", (), 4, 2), ("num", (), 6, 4), ("rec", (), 2, 0), ("tag", ("yes", 2), 1, 0),
                ("tag", ("no", 2), 1, 0)],
            uses=[
                ("take", 4, 1, 0, (("x", 3),)), ("take", 6, 3, 0, (("y", 5),)), ("num", 3, 0, 0), ("num", 5, 0, 1)],
            flows=[(1, 0)])

    def test_rec_row_and_tag(self):
        self.laid(
            "( def a ( rec p ( row 1 ) q ( tag t 2 ) ) )", points=[0, 0, 1, 1, 2, 3, 4],
            makes=[
                ("num", (), 4, 2), ("row", (3,), 2, 1), ("num", (), 6, 4), ("tag", ("t", 6), 5, 3),
                ("rec", (("p", 2), ("q", 5)), 1, 0)],
            flows=[(4, 3), (1, 0)])


class NamesTest(LayingCase):
    def test_a_fns_name(self):
        self.laid("( def a ( fn x x ) )", points=[0, 0, 0, 1], makes=[("fn", (2, 3), 1, 0)], flows=[(2, 3), (1, 0)])
        self.laid(
            "( def a ( fn x ( fn y ( call x y ) ) ) )", points=[0, 0, 0, 1, 1, 2, 3, 4],
            makes=[("fn", (4, 5), 3, 1), ("fn", (2, 3), 1, 0)], uses=[("call", 6, 2, 0, 7, 5)],
            flows=[(2, 6), (4, 7), (1, 0)])

    def test_an_arms_name(self):
        self.laid(
            "( def a ( case ( rec ) t x x s y ( row y y ) ) )", points=[0, 0, 1, 0, 2, 0, 3, 3, 4, 5],
            makes=[("rec", (), 2, 1), ("row", (7,), 6, 3)], uses=[("case", 2, 0, 0, (("t", 3), ("s", 5)))],
            flows=[(3, 4), (4, 1), (5, 8), (8, 7), (5, 9), (9, 7), (6, 1), (1, 0)])

    def test_a_lets_name_is_laid_anew_each_time(self):
        self.laid(
            "( def a ( let x 1 x ) )", points=[0, 0, 1, 2, 1], makes=[("num", (), 2, 1), ("num", (), 4, 1)],
            flows=[(4, 3), (3, 1), (1, 0)])
        self.laid(
            "( def a ( let f ( fn x x ) ( call f f ) ) )", points=[0, 0, 1, 1, 2, 3, 4, 1, 1, 2, 5, 1, 1, 2],
            makes=[("fn", (3, 4), 2, 1), ("fn", (8, 9), 7, 1), ("fn", (12, 13), 11, 1)],
            uses=[("call", 6, 3, 0, 10, 5)],
            flows=[(3, 4), (8, 9), (7, 6), (12, 13), (11, 10), (5, 1), (1, 0)])

    def test_lets_within_lets(self):
        self.laid(
            "( def a ( let x 1 ( let y ( row x ) y ) ) )", points=[0, 0, 1, 2, 3, 3, 4, 1, 5, 3, 3, 4, 1],
            makes=[
                ("num", (), 2, 1), ("num", (), 7, 1), ("row", (5,), 4, 3), ("num", (), 12, 1), ("row", (10,), 9, 3)],
            flows=[(7, 6), (6, 5), (12, 11), (11, 10), (9, 8), (8, 3), (3, 1), (1, 0)])

    def test_a_let_in_the_e_of_a_let(self):
        self.laid(
            "( def a ( let x ( let y 1 y ) x ) )", points=[0, 0, 1, 2, 3, 2, 4, 1, 2, 3, 2],
            makes=[("num", (), 3, 2), ("num", (), 5, 2), ("num", (), 8, 2), ("num", (), 10, 2)],
            flows=[(5, 4), (4, 2), (10, 9), (9, 7), (7, 6), (6, 1), (1, 0)])

    def test_a_lets_e_that_holds_outer_names_and_arms_of_its_own(self):
        self.laid(
            "( def a ( fn z ( let c ( case z t x x ) ( row c c ) ) ) )",
            points=[0, 0, 0, 1, 2, 3, 2, 4, 5, 5, 6, 2, 3, 2, 4, 7, 2, 3, 2, 4],
            makes=[("row", (9,), 8, 5), ("fn", (2, 3), 1, 0)],
            uses=[
                ("case", 5, 2, 0, (("t", 6),)), ("case", 12, 2, 0, (("t", 13),)), ("case", 17, 2, 0, (("t", 18),))],
            flows=[
                (2, 5), (6, 7), (7, 4), (2, 12), (13, 14), (14, 11), (11, 10), (10, 9), (2, 17), (18, 19), (19, 16),
                (16, 15), (15, 9), (8, 3), (1, 0)])

    def test_a_name_means_the_innermost(self):
        self.laid(
            "( def a ( fn x ( row ( fn x x ) x ) ) )", points=[0, 0, 0, 1, 1, 2, 2, 3, 4],
            makes=[("fn", (6, 7), 5, 2), ("row", (4,), 3, 1), ("fn", (2, 3), 1, 0)],
            flows=[(6, 7), (5, 4), (2, 8), (8, 4), (1, 0)])

    def test_the_definition_that_is_being_laid(self):
        self.laid(
            "( def a ( fn x ( call a x ) ) )", points=[0, 0, 0, 1, 2, 3], makes=[("fn", (2, 3), 1, 0)],
            uses=[("call", 4, 1, 0, 5, 3)], flows=[(0, 4), (2, 5), (1, 0)])

    def test_the_definition_that_is_being_laid_in_a_lets_e(self):
        self.laid(
            "( def a ( fn x ( let y ( call a x ) y ) ) )", points=[0, 0, 0, 1, 2, 3, 4, 5, 2, 3, 4],
            makes=[("fn", (2, 3), 1, 0)], uses=[("call", 5, 2, 0, 6, 4), ("call", 9, 2, 0, 10, 8)],
            flows=[(0, 5), (2, 6), (0, 9), (2, 10), (8, 7), (7, 3), (1, 0)])

    def test_another_definition_is_laid_anew_each_time(self):
        self.laid(
            "( def a 1 ) ( def b a )", 1, points=[1, 1, 0, 0], makes=[("num", (), 3, 0)],
            flows=[(3, 2), (2, 1), (1, 0)])
        self.laid(
            "( def a 1 ) ( def b ( add a a ) )", 1, points=[1, 1, 2, 0, 0, 3, 0, 0],
            makes=[("num", (), 4, 0), ("num", (), 7, 0), ("num", (), 1, 1)],
            uses=[("num", 2, 1, 0), ("num", 5, 1, 1)],
            flows=[(4, 3), (3, 2), (7, 6), (6, 5), (1, 0)])

    def test_another_definition_in_a_lets_e(self):
        self.laid(
            "( def a 1 ) ( def b ( let x a x ) )", 1, points=[1, 1, 2, 0, 0, 3, 2, 0, 0],
            makes=[("num", (), 4, 0), ("num", (), 8, 0)],
            flows=[(4, 3), (3, 2), (8, 7), (7, 6), (6, 5), (5, 1), (1, 0)])

    def test_another_definition_that_names_itself(self):
        self.laid(
            "( def a ( fn x ( call a x ) ) ) ( def b ( row a a ) )", 1,
            points=[4, 4, 4, 5, 0, 0, 0, 1, 2, 3, 6, 0, 0, 0, 1, 2, 3],
            makes=[("fn", (6, 7), 5, 0), ("fn", (13, 14), 12, 0), ("row", (2,), 1, 4)],
            uses=[("call", 8, 1, 0, 9, 7), ("call", 15, 1, 0, 16, 14)],
            flows=[
                (4, 8), (6, 9), (5, 4), (4, 3), (3, 2), (11, 15), (13, 16), (12, 11), (11, 10), (10, 2), (1, 0)])


class SeveralTest(LayingCase):
    TEXT = "( def a 1 ) ( def f ( fn x ( row f a ) ) ) ( def g ( fn y ( row g f g ) ) )"

    def test_the_first(self):
        self.laid(self.TEXT, 0, points=[0, 0], makes=[("num", (), 1, 0)], flows=[(1, 0)])

    def test_one_in_the_middle(self):
        self.laid(
            self.TEXT, 1, points=[1, 1, 1, 2, 2, 3, 4, 0, 0],
            makes=[("num", (), 8, 0), ("row", (4,), 3, 2), ("fn", (2, 3), 1, 1)],
            flows=[(0, 5), (5, 4), (8, 7), (7, 6), (6, 4), (1, 0)])

    def test_the_last(self):
        self.laid(
            self.TEXT, 2, points=[5, 5, 5, 6, 6, 7, 8, 1, 1, 1, 2, 2, 3, 4, 0, 0, 9],
            makes=[
                ("num", (), 15, 0), ("row", (11,), 10, 2), ("fn", (9, 10), 8, 1), ("row", (4,), 3, 6),
                ("fn", (2, 3), 1, 5)],
            flows=[
                (0, 5), (5, 4), (7, 12), (12, 11), (15, 14), (14, 13), (13, 11), (8, 7), (7, 6), (6, 4), (0, 16),
                (16, 4), (1, 0)])

    def test_the_root_is_the_point_of_the_definition(self):
        program = read(EVERY_FORM)
        homes = homes_of(program)
        for which, place in enumerate(program.roots):
            board = laid(program, homes, which)
            self.assertEqual(board.root, 0)
            self.assertEqual(board.points[:2], [place, place])
            self.assertEqual(board.flows[-1], (1, 0))

    def test_each_expr_that_is_laid_weighs_one(self):
        # Numbers alone, so each making is an EXPR that was laid.
        text = """( def a 1 ) ( def b ( add a a ) ) ( def c ( let x ( sub b 1 ) ( add x x ) ) )"""
        program = read(text)
        homes = homes_of(program)
        weights = weights_of(program, homes)
        for which, root in enumerate(program.roots):
            board = laid(program, homes, which)
            names = [(p, q) for p, q in board.flows if program.rows[board.points[q]][0] == "name"]
            lets = [(p, q) for p, q in board.flows if program.rows[board.points[q]][0] == "let" and q != 0]
            self.assertEqual(len(board.makes) + len(names) + len(lets), weights[root])

    def test_the_deepest(self):
        for floor in FLOORS:
            rows = []
            while len(rows) + len(floor(0)) < 60:
                rows += floor(len(rows))
            program = Program(["a"], [0], rows + [("num", 1)])
            homes = homes_of(program)
            with self.subTest(rows[0]):
                self.assertIn(weights_of(program, homes)[0], (59, 60))
                board = laid(program, homes, 0)
                self.assertEqual(sorted(set(board.points)), list(range(len(program.rows))))
                self.assertEqual(board.points[-1], len(rows))

    def test_many_definitions(self):
        names = [f"a{number}" for number in range(30)]
        program = Program(names, list(range(30)), [("num", 1)] + [("name", name) for name in names[:-1]])
        board = laid(program, homes_of(program), 29)
        self.assertEqual(board.points, [place for place in range(29, -1, -1) for _ in range(2)])
        self.assertEqual([one.told() for one in board.makes], [("num", (), 59, 0)])


NUM = Paper([(("num",),)], [], [])
ANY = Paper([(("any",),), ()], [], [])
WIDE = Paper([(("fn", 0, 1),), ()], [(("row", 1),), ()], [(1, 1)])


class PapersTest(LayingCase):
    def test_a_paper_is_pasted_with_the_names_place(self):
        self.laid(
            "( def a ( size ( row ) ) ) ( def b a )", 1, papers=[NUM], points=[2, 2, 2],
            makes=[("num", (), 2, 2)], flows=[(2, 1), (1, 0)])

    def test_more_than_once(self):
        self.laid(
            "( def a 1 ) ( def b ( add a a ) )", 1, papers=[NUM], points=[1, 1, 2, 2, 3, 3],
            makes=[("num", (), 3, 2), ("num", (), 5, 3), ("num", (), 1, 1)],
            uses=[("num", 2, 1, 0), ("num", 4, 1, 1)], flows=[(3, 2), (5, 4), (1, 0)])

    def test_each_definition_by_its_own_paper(self):
        self.laid(
            "( def a 1 ) ( def b 2 ) ( def c ( row b a b ) )", 2, papers=[NUM, ANY],
            points=[2, 2, 2, 3, 3, 3, 4, 4, 5, 5, 5],
            makes=[("any", (), 4, 3), ("num", (), 7, 4), ("any", (), 9, 5), ("row", (2,), 1, 2)],
            flows=[(4, 3), (3, 2), (7, 6), (6, 2), (9, 8), (8, 2), (1, 0)])

    def test_names_of_lets_beside_it(self):
        self.laid(
            "( def f ( fn x x ) ) ( def g ( let y f ( call y y ) ) )", 1, papers=[WIDE],
            points=[2, 2] + [3] * 5 + [4, 5] + [3] * 5 + [6] + [3] * 5,
            makes=[("fn", (5, 4), 3, 3), ("fn", (12, 11), 10, 3), ("fn", (18, 17), 16, 3)],
            uses=[("row", 5, 3, 0, 6), ("row", 12, 3, 0, 13), ("row", 18, 3, 0, 19), ("call", 8, 4, 0, 14, 7)],
            flows=[
                (6, 4), (3, 2), (13, 11), (10, 9), (9, 8), (19, 17), (16, 15), (15, 14), (7, 1), (1, 0)])

    def test_its_own_name_and_other_names_are_as_without(self):
        self.laid(
            "( def a 1 ) ( def f ( fn x ( row f a x ) ) )", 1, papers=[NUM], points=[1, 1, 1, 2, 2, 3, 4, 4, 5],
            makes=[("num", (), 7, 4), ("row", (4,), 3, 2), ("fn", (2, 3), 1, 1)],
            flows=[(0, 5), (5, 4), (7, 6), (6, 4), (2, 8), (8, 4), (1, 0)])

    def test_the_first_definition_with_no_papers_ahead(self):
        self.laid(
            "( def a ( fn x ( call a x ) ) ) ( def b 1 )", 0, papers=[], points=[0, 0, 0, 1, 2, 3],
            makes=[("fn", (2, 3), 1, 0)], uses=[("call", 4, 1, 0, 5, 3)], flows=[(0, 4), (2, 5), (1, 0)])

    def test_a_definition_that_names_no_other(self):
        self.laid(
            "( def a 1 ) ( def b 2 )", 1, papers=[WIDE], points=[1, 1], makes=[("num", (), 1, 1)], flows=[(1, 0)])

    def test_papers_left_out_and_none(self):
        program = read(EVERY_FORM)
        homes = homes_of(program)
        for which in range(3):
            without = told(laid(program, homes, which))
            self.assertEqual(told(laid(program, homes, which, None)), without)
            self.assertEqual(told(laid(program, homes, which, papers=None)), without)
        self.assertNotEqual(told(laid(program, homes, 2, [WIDE, NUM])), told(laid(program, homes, 2)))

    def test_the_interface(self):
        parameters = inspect.signature(laid).parameters
        self.assertEqual(list(parameters), ["program", "homes", "which", "papers"])
        self.assertIsNone(parameters["papers"].default)


class OwnTest(unittest.TestCase):
    def setUp(self):
        self.program = read(EVERY_FORM)
        self.homes = homes_of(self.program)
        self.papers = [copy.deepcopy(WIDE), copy.deepcopy(NUM)]

    def given(self):
        return copy.deepcopy((vars(self.program), self.homes, [vars(paper) for paper in self.papers]))

    def asked(self):
        return [laid(self.program, self.homes, 2), laid(self.program, self.homes, 2, self.papers)]

    def test_what_is_handed_in_stays(self):
        before = self.given()
        for board in self.asked():
            self.assertEqual(self.given(), before)
            for field in (board.points, board.makes, board.uses, board.flows):
                field.clear()
            board.point(3)
            board.flow(0, 0)
        self.assertEqual(self.given(), before)

    def test_a_board_told_and_changed_changes_no_later_answer(self):
        first = self.asked()
        kept = [copy.deepcopy(told(board)) for board in first]
        second = self.asked()
        for board in first:
            board.rooted(1)
            board.point(3)
            board.flow(0, 0)
            board.makes[0].at = 77
            board.uses[0].place = 77
            board.makes.pop()
            board.uses.append(NumUse(0, 0, 0))
        self.assertEqual([told(board) for board in second], kept)
        self.assertEqual([told(board) for board in self.asked()], kept)

    def test_a_board_told_holds_when_what_was_handed_in_is_changed(self):
        boards = self.asked()
        kept = [copy.deepcopy(told(board)) for board in boards]
        self.program.rows.clear()
        self.homes.clear()
        self.papers[0].outs.clear()
        self.papers[0].flows.append((0, 0))
        self.assertEqual([told(board) for board in boards], kept)

    def test_no_two_lists_are_one(self):
        lists = []
        for board in self.asked() + self.asked():
            lists += [board.points, board.makes, board.uses, board.flows]
        lists += [paper_list for paper in self.papers for paper_list in vars(paper).values()]
        self.assertEqual(len({id(each) for each in lists}), len(lists))


if __name__ == "__main__":
    unittest.main()
