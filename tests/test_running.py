"""[35], [36] and [37]: programs run by turns, and what comes of a run."""

import copy
import inspect
import unittest

from drawn import drawn_programs
from flowkinds import running
from flowkinds.errors import FlowError, OutOfTurns, RowFull, TooHeavy, WrongKind
from flowkinds.homes import homes_of
from flowkinds.reading import Program, read
from flowkinds.running import Run, answer, run, shown_value
from flowkinds.weights import weights_of

MANY = 2000

# A thing of each shape, with the one place that it takes; and things that a
# use of a field a or of an arm t does not take, though their shape is right.
THINGS = {"num": "7", "fn": "( fn x x )", "rec": "( rec a 7 )", "tag": "( tag t 7 )", "row": "( row 7 )"}
OTHERS = {"bare": "( rec )", "field": "( rec b 7 )", "tagged": "( tag s 7 )"}

# Each use: its text, with X in the place of what is used, the place of X, its
# slot, and the thing that it asks for.
USES = [
    ("( call X 1 )", 1, 0, "fn"),
    ("( get X a )", 1, 0, "rec"),
    ("( case X t x x )", 1, 0, "tag"),
    ("( size X )", 1, 0, "row"),
    ("( at X 0 1 )", 1, 0, "row"),
    ("( at ( row ) X 1 )", 2, 1, "num"),
    ("( join X ( row ) )", 1, 0, "row"),
    ("( join ( row ) X )", 2, 1, "row"),
    ("( add X 1 )", 1, 0, "num"),
    ("( add 1 X )", 2, 1, "num"),
    ("( sub X 1 )", 1, 0, "num"),
    ("( sub 1 X )", 2, 1, "num"),
    ("( less X 1 )", 1, 0, "num"),
    ("( less 1 X )", 2, 1, "num"),
]


# The words of [36] as a function that calls itself. Names are looked up by
# their words here, not by homes.
class Ended(Exception):
    pass


class Wording:
    def __init__(self, program, turns):
        self.program, self.turns = program, turns
        self.begun, self.meets, self.had, self.defined, self.value = 0, [], [], {}, None
        try:
            for name, root in zip(program.names, program.roots):
                self.defined[name] = value = self.expr(root, {})
            self.end, self.value = "done", value
        except Ended as ended:
            self.end = str(ended)

    def expr(self, place, names):
        if self.begun == self.turns:
            raise Ended("turns")
        self.begun += 1
        value = self.value_of(place, names, *self.program.rows[place])
        self.had.append((place, value[-1]))
        return value

    def comes(self, value, place, slot, fits):
        self.meets.append((value[-1], place, slot))
        if not fits:
            raise Ended("wrong")

    def value_of(self, place, names, form, *parts):
        if form == "num":
            return ("num", parts[0], place)
        if form == "name":
            return names[parts[0]] if parts[0] in names else self.defined[parts[0]]
        if form == "fn":
            return ("fn", (parts[0], parts[1], names), place)
        if form == "let":
            return self.expr(parts[2], {**names, parts[0]: self.expr(parts[1], names)})
        if form == "rec":
            return ("rec", tuple((word, self.expr(part, names)) for word, part in parts[0]), place)
        if form == "tag":
            return ("tag", (parts[0], self.expr(parts[1], names)), place)
        if form == "row":
            return ("row", tuple(self.expr(part, names) for part in parts[0]), place)
        return self.used(place, names, form, parts)

    def used(self, place, names, form, parts):
        values = [self.expr(part, names) for part in parts if isinstance(part, int)]
        first = values[0]
        if form == "call":
            self.comes(first, place, 0, first[0] == "fn")
            word, body, around = first[1]
            return self.expr(body, {**around, word: values[1]})
        if form == "get":
            self.comes(first, place, 0, first[0] == "rec" and parts[1] in dict(first[1]))
            return dict(first[1])[parts[1]]
        if form == "case":
            arms = {word: (name, body) for word, name, body in parts[1]}
            self.comes(first, place, 0, first[0] == "tag" and first[1][0] in arms)
            name, body = arms[first[1][0]]
            return self.expr(body, {**names, name: first[1][1]})
        self.comes(first, place, 0, first[0] == ("row" if form in ("at", "join", "size") else "num"))
        if form == "size":
            return ("num", len(first[1]), place)
        second = values[1]
        self.comes(second, place, 1, second[0] == ("row" if form == "join" else "num"))
        return self.of_two(place, form, first[1], second[1], values)

    def of_two(self, place, form, first, second, values):
        if form == "at":
            return first[second] if second in range(len(first)) else values[2]
        if form == "join":
            if len(first) + len(second) > 60:
                raise Ended("full")
            return ("row", first + second, place)
        if form == "less":
            return ("tag", ("yes" if first < second else "no", ("rec", (), place)), place)
        return ("num", first + second if form == "add" else first - second, place)


# What stands between in a function's value is not promised.
def plain(value):
    if value is None or value[0] == "num":
        return value
    if value[0] == "fn":
        return ("fn", value[-1])
    if value[0] == "rec":
        return ("rec", tuple((word, plain(part)) for word, part in value[1]), value[2])
    if value[0] == "tag":
        return ("tag", (value[1][0], plain(value[1][1])), value[2])
    return ("row", tuple(plain(part) for part in value[1]), value[2])


def moved(value):
    if value[0] == "num":
        return ("num", value[1], value[2] + 1)
    if value[0] == "fn":
        return ("fn", value[1] + 1)
    if value[0] == "rec":
        return ("rec", tuple((word, moved(part)) for word, part in value[1]), value[2] + 1)
    if value[0] == "tag":
        return ("tag", (value[1][0], moved(value[1][1])), value[2] + 1)
    return ("row", tuple(moved(part) for part in value[1]), value[2] + 1)


def ran(text, turns=MANY):
    program = read(text)
    return run(program, homes_of(program), turns)


# How deep a value is nested in its first things, down to one that holds none.
def depth_of(value):
    depth = 1
    while value[0] in ("rec", "tag", "row") and value[1]:
        inner = value[1] if value[0] == "tag" else value[1][0]
        value = inner if value[0] == "row" else inner[1]
        depth += 1
    return depth


class RunningCase(unittest.TestCase):
    maxDiff = None

    def told(self, found, end, value, meets, had, begun):
        self.assertIs(type(found), Run)
        self.assertEqual(
            (found.end, plain(found.value), found.meets, found.had, found.begun), (end, value, meets, had, begun))

    def runs(self, text, value, meets, had):
        with self.subTest(text):
            self.told(ran(text), "done", value, meets, had, len(had))
            # Behind one more definition of one place all places are one greater.
            self.told(
                ran(f"( def before 1 ) {text}"), "done", moved(value), [(p + 1, q + 1, slot) for p, q, slot in meets],
                [(0, 0)] + [(p + 1, q + 1) for p, q in had], len(had) + 1)

    def ends(self, text, end, meets, had, begun, turns=MANY):
        with self.subTest(text, turns=turns):
            self.told(ran(text, turns), end, None, meets, had, begun)


class FormsTest(RunningCase):
    def test_num(self):
        self.runs("( def a 7 )", ("num", 7, 0), [], [(0, 0)])

    def test_fn(self):
        self.runs("( def a ( fn x ( call x x ) ) )", ("fn", 0), [], [(0, 0)])

    def test_name_of_each_home(self):
        self.runs("( def a 7 ) ( def b a )", ("num", 7, 0), [], [(0, 0), (1, 0)])
        self.runs("( def a ( let x 7 x ) )", ("num", 7, 1), [], [(1, 1), (2, 1), (0, 1)])
        self.runs("( def a ( call ( fn x x ) 7 ) )", ("num", 7, 3), [(1, 0, 0)], [(1, 1), (3, 3), (2, 3), (0, 3)])
        self.runs(
            "( def a ( case ( tag t 7 ) t x x ) )", ("num", 7, 2), [(1, 0, 0)], [(2, 2), (1, 1), (3, 2), (0, 2)])

    def test_call(self):
        self.runs(
            "( def a ( call ( fn x ( row x x ) ) 7 ) )", ("row", (("num", 7, 5), ("num", 7, 5)), 2), [(1, 0, 0)],
            [(1, 1), (5, 5), (3, 5), (4, 5), (2, 2), (0, 2)])

    def test_a_call_that_does_not_look_at_its_argument(self):
        self.runs("( def a ( call ( fn x 1 ) 7 ) )", ("num", 1, 2), [(1, 0, 0)], [(1, 1), (3, 3), (2, 2), (0, 2)])

    def test_let(self):
        self.runs("( def a ( let x 7 8 ) )", ("num", 8, 2), [], [(1, 1), (2, 2), (0, 2)])

    def test_rec(self):
        self.runs("( def a ( rec ) )", ("rec", (), 0), [], [(0, 0)])
        self.runs(
            "( def a ( rec y 7 x ( rec ) ) )", ("rec", (("y", ("num", 7, 1)), ("x", ("rec", (), 2))), 0), [],
            [(1, 1), (2, 2), (0, 0)])

    def test_get(self):
        self.runs(
            "( def a ( get ( rec y 7 x 8 ) x ) )", ("num", 8, 3), [(1, 0, 0)], [(2, 2), (3, 3), (1, 1), (0, 3)])

    def test_tag(self):
        self.runs("( def a ( tag t 7 ) )", ("tag", ("t", ("num", 7, 1)), 0), [], [(1, 1), (0, 0)])

    def test_case(self):
        for tag, value, had in (("t", ("num", 1, 3), (3, 3)), ("s", ("num", 7, 2), (4, 2))):
            self.runs(
                f"( def a ( case ( tag {tag} 7 ) t x 1 s y y ) )", value, [(1, 0, 0)],
                [(2, 2), (1, 1), had, (0, had[1])])

    def test_row(self):
        self.runs("( def a ( row ) )", ("row", (), 0), [], [(0, 0)])
        self.runs(
            "( def a ( row 7 ( row ) 7 ) )", ("row", (("num", 7, 1), ("row", (), 2), ("num", 7, 3)), 0), [],
            [(1, 1), (2, 2), (3, 3), (0, 0)])

    def test_at(self):
        for index, value in ((0, ("num", 7, 2)), (1, ("num", 8, 3)), (2, ("num", 9, 5)), (10 ** 59, ("num", 9, 5))):
            self.runs(
                f"( def a ( at ( row 7 8 ) {index} 9 ) )", value, [(1, 0, 0), (4, 0, 1)],
                [(2, 2), (3, 3), (1, 1), (4, 4), (5, 5), (0, value[2])])

    def test_at_with_a_place_below_nought(self):
        for less in (1, 2, 3):
            self.runs(
                f"( def a ( at ( row 7 8 ) ( sub 0 {less} ) 9 ) )", ("num", 9, 7),
                [(5, 4, 0), (6, 4, 1), (1, 0, 0), (4, 0, 1)],
                [(2, 2), (3, 3), (1, 1), (5, 5), (6, 6), (4, 4), (7, 7), (0, 7)])

    def test_at_of_an_empty_row(self):
        self.runs(
            "( def a ( at ( row ) 0 9 ) )", ("num", 9, 3), [(1, 0, 0), (2, 0, 1)], [(1, 1), (2, 2), (3, 3), (0, 3)])

    def test_join(self):
        self.runs(
            "( def a ( join ( row 7 ) ( row 8 9 ) ) )",
            ("row", (("num", 7, 2), ("num", 8, 4), ("num", 9, 5)), 0), [(1, 0, 0), (3, 0, 1)],
            [(2, 2), (1, 1), (4, 4), (5, 5), (3, 3), (0, 0)])
        self.runs(
            "( def a ( join ( row ) ( row ) ) )", ("row", (), 0), [(1, 0, 0), (2, 0, 1)], [(1, 1), (2, 2), (0, 0)])

    def test_size(self):
        self.runs("( def a ( size ( row ) ) )", ("num", 0, 0), [(1, 0, 0)], [(1, 1), (0, 0)])
        self.runs(
            "( def a ( size ( row 7 8 ) ) )", ("num", 2, 0), [(1, 0, 0)], [(2, 2), (3, 3), (1, 1), (0, 0)])

    def test_add_and_sub(self):
        for form, number in (("add", 10), ("sub", 4)):
            self.runs(
                f"( def a ( {form} 7 3 ) )", ("num", number, 0), [(1, 0, 0), (2, 0, 1)], [(1, 1), (2, 2), (0, 0)])

    def test_less(self):
        for first, second, word in ((1, 2, "yes"), (2, 1, "no"), (2, 2, "no"), (0, 10 ** 59, "yes")):
            self.runs(
                f"( def a ( less {first} {second} ) )", ("tag", (word, ("rec", (), 0)), 0), [(1, 0, 0), (2, 0, 1)],
                [(1, 1), (2, 2), (0, 0)])

    def test_what_less_makes_is_used_like_anything_else(self):
        self.runs(
            "( def a ( case ( less 1 2 ) no x 7 yes x x ) )", ("rec", (), 1), [(2, 1, 0), (3, 1, 1), (1, 0, 0)],
            [(2, 2), (3, 3), (1, 1), (5, 1), (0, 1)])

    def test_a_definition_behind_the_other(self):
        self.runs(
            "( def a 7 ) ( def b ( row a ) ) ( def c ( fn x 1 ) )", ("fn", 3), [],
            [(0, 0), (2, 0), (1, 1), (3, 3)])


class OrderTest(RunningCase):
    def test_uses_within_uses(self):
        self.runs(
            "( def a ( add ( size ( row ) ) ( sub 7 ( get ( rec a 1 ) a ) ) ) )", ("num", 6, 0),
            [(2, 1, 0), (6, 5, 0), (4, 3, 0), (7, 3, 1), (1, 0, 0), (3, 0, 1)],
            [(2, 2), (1, 1), (4, 4), (7, 7), (6, 6), (5, 7), (3, 3), (0, 0)])

    def test_a_call_within_the_function_and_the_argument(self):
        self.runs(
            "( def a ( call ( call ( fn x ( fn y x ) ) 7 ) ( call ( fn z z ) 8 ) ) )", ("num", 7, 5),
            [(2, 1, 0), (7, 6, 0), (3, 0, 0)],
            [(2, 2), (5, 5), (3, 3), (1, 3), (7, 7), (9, 9), (8, 9), (6, 9), (4, 5), (0, 5)])

    # The second is run, though the first is a wrong thing already.
    def test_a_use_comes_when_all_are_run(self):
        self.ends(
            "( def a ( call 1 ( size ( row ) ) ) )", "wrong", [(3, 2, 0), (1, 0, 0)],
            [(1, 1), (3, 3), (2, 2)], 4)
        self.ends(
            "( def a ( at 1 2 ( size ( row ) ) ) )", "wrong", [(4, 3, 0), (1, 0, 0)],
            [(1, 1), (2, 2), (4, 4), (3, 3)], 5)
        for form in ("join", "add", "sub", "less"):
            self.ends(
                f"( def a ( {form} ( rec ) ( size ( row ) ) ) )", "wrong", [(3, 2, 0), (1, 0, 0)],
                [(1, 1), (3, 3), (2, 2)], 4)

    def test_the_arms_that_are_not_taken_do_not_run(self):
        self.runs(
            "( def a ( case ( tag s 7 ) t x ( call 1 1 ) s y 8 r z ( size 1 ) ) )", ("num", 8, 6), [(1, 0, 0)],
            [(2, 2), (1, 1), (6, 6), (0, 6)])


class NamesTest(RunningCase):
    def test_a_fn_called_twice(self):
        self.runs(
            "( def f ( fn x ( add x 1 ) ) ) ( def a ( row ( call f 5 ) ( call f 7 ) ) )",
            ("row", (("num", 6, 1), ("num", 8, 1)), 4),
            [(0, 5, 0), (7, 1, 0), (3, 1, 1), (0, 8, 0), (10, 1, 0), (3, 1, 1)],
            [
                (0, 0), (6, 0), (7, 7), (2, 7), (3, 3), (1, 1), (5, 1), (9, 0), (10, 10), (2, 10), (3, 3), (1, 1),
                (8, 1), (4, 4)])

    def test_a_fn_called_within_itself(self):
        text = "( def f ( fn n ( case ( less n 1 ) yes u n no v ( call f ( sub n 1 ) ) ) ) ) ( def a ( call f 1 ) )"
        self.runs(
            text, ("num", 0, 8),
            [
                (0, 11, 0), (13, 2, 0), (4, 2, 1), (2, 1, 0), (13, 8, 0), (10, 8, 1), (0, 6, 0), (8, 2, 0), (4, 2, 1),
                (2, 1, 0)],
            [
                (0, 0), (12, 0), (13, 13), (3, 13), (4, 4), (2, 2), (7, 0), (9, 13), (10, 10), (8, 8), (3, 8), (4, 4),
                (2, 2), (5, 8), (1, 8), (6, 8), (1, 8), (11, 8)])

    # The inner call has an x of its own; behind it the outer x is what it was.
    def test_each_call_has_its_own(self):
        found = ran(
            "( def f ( fn x ( case ( less x 1 ) yes u ( row ) no v ( join ( call f ( sub x 1 ) ) ( row x ) ) ) ) ) "
            "( def a ( call f 4 ) )")
        self.assertEqual([thing[1] for thing in found.value[1]], [1, 2, 3, 4])

    def test_a_fn_keeps_what_its_names_meant_where_it_was_made(self):
        self.runs(
            "( def a ( let x 7 ( let f ( fn y x ) ( let x 8 ( call f x ) ) ) ) )", ("num", 7, 1), [(3, 7, 0)],
            [(1, 1), (3, 3), (6, 6), (8, 3), (9, 6), (4, 1), (7, 1), (5, 1), (2, 1), (0, 1)])
        found = ran("( def x 1 ) ( def f ( fn y ( row x y ) ) ) ( def a ( let x 2 ( let y 3 ( call f 4 ) ) ) )")
        self.assertEqual([thing[1] for thing in found.value[1]], [1, 4])

    def test_a_fn_told_keeps_the_argument_of_its_own_call(self):
        found = ran(
            "( def f ( fn x ( fn y ( row x y ) ) ) ) ( def g ( call f 1 ) ) ( def h ( call f 2 ) ) "
            "( def a ( row ( call g 3 ) ( call h 4 ) ( call g 5 ) ) )")
        self.assertEqual([[part[1] for part in thing[1]] for thing in found.value[1]], [[1, 3], [2, 4], [1, 5]])

    def test_an_inner_name_hides_an_outer_one(self):
        for text, number in (
            ("( def x 1 ) ( def a ( let x 2 x ) )", 2),
            ("( def x 1 ) ( def a ( let x ( add x 1 ) ( add x x ) ) )", 4),
            ("( def a ( let x 1 ( let x ( add x 1 ) x ) ) )", 2),
            ("( def a ( call ( call ( fn x ( fn x x ) ) 1 ) 2 ) )", 2),
            ("( def a ( call ( fn x ( add ( case ( tag t 5 ) t x x ) x ) ) 1 ) )", 6),
            ("( def a ( call ( fn x ( add ( let x 5 x ) x ) ) 1 ) )", 6),
            ("( def a ( call ( fn a a ) 3 ) )", 3),
            ("( def f ( fn f ( add f 1 ) ) ) ( def a ( call f 3 ) )", 4),
        ):
            with self.subTest(text):
                self.assertEqual(ran(text).value[1], number)

    # What is run but once has its pair but once.
    def test_what_a_name_stands_for_is_not_run_anew(self):
        for text, place in (
            ("( def a ( let x ( row 1 ) ( row x x x ) ) )", 1),
            ("( def a ( case ( tag t ( row 1 ) ) t x ( row x x x ) ) )", 2),
            ("( def a ( call ( fn x ( row x x x ) ) ( row 1 ) ) )", 6),
            ("( def a ( row 1 ) ) ( def b ( row a a a ) ) ( def c ( row a b ) )", 0),
        ):
            with self.subTest(text):
                found = ran(text)
                self.assertEqual(found.had.count((place, place)), 1)
                self.assertEqual(found.had.count((place + 1, place + 1)), 1)

    def test_a_let_that_is_not_named_is_run(self):
        self.ends("( def a ( let x ( size 1 ) 2 ) )", "wrong", [(2, 1, 0)], [(2, 2)], 3)

    def test_a_definition_that_is_not_named_is_run(self):
        self.ends("( def a ( size 1 ) ) ( def b 2 )", "wrong", [(1, 0, 0)], [(1, 1)], 2)


class NumbersTest(RunningCase):
    def test_below_nought(self):
        self.runs("( def a ( sub 3 10 ) )", ("num", -7, 0), [(1, 0, 0), (2, 0, 1)], [(1, 1), (2, 2), (0, 0)])
        self.assertEqual(ran("( def a ( sub 0 1 ) ) ( def b ( add a a ) )").value, ("num", -2, 3))
        self.assertEqual(ran("( def a ( less ( sub 0 2 ) ( sub 0 1 ) ) )").value[1][0], "yes")
        self.assertEqual(ran("( def a ( less ( sub 0 1 ) ( sub 0 2 ) ) )").value[1][0], "no")

    def test_of_many_figures(self):
        nines = "9" * 60
        self.assertEqual(ran(f"( def a ( add {nines} 1 ) )").value, ("num", 10 ** 60, 0))
        self.assertEqual(ran(f"( def a ( sub ( sub 0 {nines} ) 1 ) )").value, ("num", -10 ** 60, 0))
        found = ran(
            "( def f ( fn n ( fn x ( case ( less n 1 ) yes u x no v ( call ( call f ( sub n 1 ) ) ( add x x ) ) ) ) ) ) "
            f"( def a ( call ( call f 100 ) {nines} ) )")
        self.assertEqual(found.value, ("num", int(nines) * 2 ** 100, 13))
        self.assertEqual(shown_value(found.value), "num " + str(int(nines) * 2 ** 100))


class WrongTest(RunningCase):
    def wrong(self, text, place, slot, thing):
        whole = f"( def a {text.replace('X', thing)} )"
        with self.subTest(whole):
            found = ran(whole)
            self.assertEqual((found.end, found.value), ("wrong", None))
            self.assertEqual(found.meets[-1], (place, 0, slot))
            # The other use of the EXPR came ahead of it where this is the second one.
            self.assertEqual(found.meets, [(1, 0, 0), (2, 0, 1)] if slot else [(1, 0, 0)])
            self.assertNotIn(0, [pair[0] for pair in found.had])
            self.assertEqual(found.begun, len(found.had) + 1)
            with self.assertRaises(WrongKind) as caught:
                answer(found)
            self.assertEqual((caught.exception.made, caught.exception.used, caught.exception.slot), (place, 0, slot))

    def test_each_use_with_each_thing(self):
        for text, place, slot, wanted in USES:
            for shape, thing in THINGS.items():
                if shape != wanted:
                    self.wrong(text, place, slot, thing)
                else:
                    with self.subTest(text, thing=thing):
                        found = ran(f"( def a {text.replace('X', thing)} )")
                        self.assertEqual(found.end, "done")
                        self.assertIn((place, 0, slot), found.meets)

    def test_a_field_that_is_not_there(self):
        self.wrong("( get X a )", 1, 0, OTHERS["bare"])
        self.wrong("( get X a )", 1, 0, OTHERS["field"])

    def test_a_tag_that_is_not_there(self):
        self.wrong("( case X t x x )", 1, 0, OTHERS["tagged"])
        self.wrong("( case X t x x r y 1 )", 1, 0, OTHERS["tagged"])
        self.ends(
            "( def a ( case ( less 1 2 ) no x x ) )", "wrong", [(2, 1, 0), (3, 1, 1), (1, 0, 0)],
            [(2, 2), (3, 3), (1, 1)], 4)

    def test_other_things_of_the_right_shape_for_nothing_else(self):
        for text, place, slot, wanted in USES:
            for shape, thing in (("rec", OTHERS["bare"]), ("tag", OTHERS["tagged"])):
                if shape != wanted:
                    self.wrong(text, place, slot, thing)

    # The first one ends the run, so the second has no triple.
    def test_both_wrong(self):
        for form in ("join", "add", "sub", "less"):
            self.ends(f"( def a ( {form} ( rec ) ( rec ) ) )", "wrong", [(1, 0, 0)], [(1, 1), (2, 2)], 3)
        self.ends("( def a ( at 1 ( rec ) 2 ) )", "wrong", [(1, 0, 0)], [(1, 1), (2, 2), (3, 3)], 4)

    def test_nothing_behind_it_is_run(self):
        self.ends(
            "( def a 7 ) ( def b ( row ( size a ) ( row ) ) ) ( def c 8 )", "wrong", [(0, 2, 0)],
            [(0, 0), (3, 0)], 4)

    def test_within_calls(self):
        self.ends(
            "( def f ( fn x ( add x 1 ) ) ) ( def a ( call f ( row ) ) )", "wrong", [(0, 4, 0), (6, 1, 0)],
            [(0, 0), (5, 0), (6, 6), (2, 6), (3, 3)], 7)

    # The made place is that of the EXPR that made the value, wherever it came by.
    def test_the_place_is_where_it_was_made(self):
        self.ends(
            "( def a ( rec b 5 ) ) ( def c ( let x ( get a b ) ( size x ) ) )", "wrong", [(0, 3, 0), (1, 5, 0)],
            [(1, 1), (0, 0), (4, 0), (3, 1), (6, 1)], 7)


class FullTest(RunningCase):
    # Rows of 4, 16 and 48 things, each joined of those ahead of it.
    ROWS = (
        "( def a ( row 1 2 3 4 ) ) ( def b ( join ( join a a ) ( join a a ) ) ) "
        "( def c ( join ( join b b ) b ) ) ")

    def test_sixty_and_sixty_one(self):
        for first, second, end in (
            ("c", "( join a ( join a a ) )", "done"), ("( join a ( join a a ) )", "c", "done"),
            ("( join c ( join a ( join a a ) ) )", "( row )", "done"),
            ("c", "( join a ( join a ( row 1 2 3 4 5 ) ) )", "full"),
            ("( join c ( join a ( join a a ) ) )", "( row 1 )", "full"),
            ("( row 1 )", "( join c ( join a ( join a a ) ) )", "full"), ("c", "c", "full"),
        ):
            with self.subTest(first, second=second):
                found = ran(f"{self.ROWS} ( def d ( join {first} {second} ) )")
                self.assertEqual(found.end, end)
                if end == "done":
                    self.assertEqual(len(found.value[1]), 60)
                else:
                    root = read(f"{self.ROWS} ( def d 1 )").roots[3]
                    self.assertIsNone(found.value)
                    self.assertEqual([one[1:] for one in found.meets[-2:]], [(root, 0), (root, 1)])
                    self.assertNotIn(root, [pair[0] for pair in found.had])

    def test_a_wrong_thing_goes_first(self):
        found = ran(f"{self.ROWS} ( def d ( join ( join c ( join a ( join a a ) ) ) 1 ) )")
        self.assertEqual((found.end, found.meets[-1][2]), ("wrong", 1))

    def test_of_itself(self):
        found = ran("( def f ( fn x ( call f ( join x x ) ) ) ) ( def a ( call f ( row 1 ) ) )")
        self.assertEqual((found.end, found.value), ("full", None))
        self.assertEqual(found.meets[-2:], [(3, 3, 0), (3, 3, 1)])


class TurnsTest(RunningCase):
    TEXT = "( def f ( fn x ( add x 1 ) ) ) ( def a ( call f ( size ( row 2 ) ) ) )"

    def test_none(self):
        self.ends(self.TEXT, "turns", [], [], 0, turns=0)
        self.ends("( def a 1 )", "turns", [], [], 0, turns=0)

    def test_just_enough_and_one_too_few(self):
        whole = ran(self.TEXT)
        self.assertEqual((whole.end, whole.begun), ("done", 9))
        self.told(ran(self.TEXT, 9), "done", whole.value, whole.meets, whole.had, 9)
        self.ends(
            self.TEXT, "turns", [(7, 6, 0), (0, 4, 0)],
            [(0, 0), (5, 0), (8, 8), (7, 7), (6, 6), (2, 6)], 8, turns=8)

    # Whatever the turns are, a run goes the way of the whole one up to where it ends.
    def test_each_number_of_turns(self):
        whole = ran(self.TEXT)
        for turns in range(9):
            found = ran(self.TEXT, turns)
            self.assertEqual((found.end, found.value, found.begun), ("turns", None, turns))
            self.assertEqual(found.meets, whole.meets[:len(found.meets)])
            self.assertEqual(found.had, whole.had[:len(found.had)])
        self.assertEqual(ran(self.TEXT, 10).begun, 9)

    def test_at_each_end(self):
        for text, end, turns in (
            ("( def a 1 )", "done", 1), ("( def a ( size 1 ) )", "wrong", 2), ("( def a ( size 1 ) )", "turns", 1),
            ("( def a ( fn x ( size 1 ) ) ) ( def b ( call a 1 ) )", "turns", 4),
            ("( def a ( fn x ( size 1 ) ) ) ( def b ( call a 1 ) )", "wrong", 6),
        ):
            with self.subTest(text, turns=turns):
                found = ran(text, turns)
                self.assertEqual((found.end, found.begun), (end, turns))

    # Its parts have run, so it takes no more turn to end.
    def test_to_end_takes_no_turn(self):
        self.told(ran("( def a ( tag t 1 ) )", 2), "done", ("tag", ("t", ("num", 1, 1)), 0), [], [(1, 1), (0, 0)], 2)


class DeepTest(RunningCase):
    # Each round begins a call, a name and a name, and no call ever ends.
    def test_calls(self):
        found = ran("( def f ( fn x ( call f x ) ) ) ( def a ( call f 7 ) )")
        self.assertEqual((found.end, found.begun), ("turns", 2000))
        self.assertEqual(found.meets, [(0, 4, 0)] + [(0, 1, 0)] * 665)
        self.assertEqual(found.had, [(0, 0), (5, 0), (6, 6)] + [(2, 0), (3, 6)] * 665)

    def test_calls_with_as_much_open_as_may_be(self):
        text = "( def f ( fn x " + "( tag t " * 20 + "( call f x )" + " )" * 20 + " ) ) ( def a ( call f 7 ) )"
        found = ran(text)
        self.assertEqual((found.end, found.begun), ("turns", 2000))
        self.assertGreater(found.begun - len(found.had), 1800)

    # Calls that end, so that each of the calls hands its value on.
    def test_calls_that_end(self):
        found = ran(
            "( def f ( fn n ( case ( less n 1 ) yes u n no v ( call f ( sub n 1 ) ) ) ) ) ( def a ( call f 200 ) )")
        self.assertEqual((found.end, found.value), ("done", ("num", 0, 8)))
        self.assertEqual(found.had[-403:], [(5, 8)] + [(1, 8), (6, 8)] * 200 + [(1, 8), (11, 8)])

    def test_values(self):
        for form, made in (("( row ", "row"), ("( tag t ", "tag"), ("( rec a ", "rec")):
            text = (
                "( def f ( fn n ( fn x ( case ( less n 1 ) yes u x no v ( call ( call f ( sub n 1 ) ) "
                + form * 18 + "x" + " )" * 18 + " ) ) ) ) ) ( def a ( call ( call f 62 ) 7 ) )")
            with self.subTest(made):
                found = ran(text)
                self.assertEqual((found.end, found.value[0]), ("done", made))
                self.assertEqual(depth_of(found.value), 62 * 18 + 1)
                self.assertEqual(depth_of(answer(found)), 62 * 18 + 1)
                self.assertEqual(shown_value(found.value).split()[0], made)

    # Twenty-two rows for twenty-six turns, through calls of calls.
    def test_the_deepest_value(self):
        text = (
            "( def f ( fn x " + "( row " * 22 + "x" + " )" * 22 + " ) ) ( def g ( fn x " + "( call f " * 18 + "x"
            + " )" * 18 + " ) ) ( def a ( call g ( call g ( call g ( call g ( row ) ) ) ) ) )")
        found = ran(text)
        self.assertEqual((found.end, depth_of(found.value)), ("done", 4 * 18 * 22 + 1))
        self.assertLess(found.begun, 2000)

    # Each function holds the one ahead of it.
    def test_functions_within_functions(self):
        text = (
            "( def f ( fn n ( fn x ( case ( less n 1 ) yes u x no v "
            "( call ( call f ( sub n 1 ) ) ( fn y ( call x y ) ) ) ) ) ) ) "
            "( def g ( call ( call f 90 ) ( fn z ( row z z ) ) ) ) ( def a ( call g 7 ) )")
        found = ran(text)
        self.assertEqual((found.end, shown_value(found.value)), ("done", "row 2"))

    def test_beyond_the_bounds(self):
        rows = [("row", (place + 1,)) for place in range(3000)] + [("num", 1)]
        program = Program(["a"], [0], rows)
        found = run(program, homes_of(program), 5000)
        self.assertEqual((found.end, found.begun, depth_of(found.value)), ("done", 3001, 3001))
        self.assertEqual(found.had, [(place, place) for place in range(3000, -1, -1)])
        self.assertEqual(run(program, homes_of(program), 3000).end, "turns")
        self.assertEqual(ran("( def f ( fn x ( call f x ) ) ) ( def a ( call f 7 ) )", 20000).begun, 20000)

    def test_weights_are_no_matter(self):
        text = (
            "( def a ( row 1 ) ) ( def b ( join a a ) ) ( def c ( join b b ) ) ( def d ( join c c ) ) "
            "( def e ( join d d ) ) ( def f ( join e e ) )")
        program = read(text)
        with self.assertRaises(TooHeavy):
            weights_of(program, homes_of(program))
        self.assertEqual(shown_value(ran(text).value), "row 32")


class DrawnTest(RunningCase):
    def test_as_the_words_go(self):
        ends = []
        for slip in (0, 0.1):
            for text, _ in drawn_programs(11, 120, slip):
                program = read(text)
                homes = homes_of(program)
                for turns in (0, 9, 30, 100):
                    with self.subTest(text, turns=turns):
                        wanted = Wording(program, turns)
                        self.told(
                            run(program, homes, turns), wanted.end, plain(wanted.value), wanted.meets, wanted.had,
                            wanted.begun)
                        ends.append(wanted.end)
        self.assertGreater(min(ends.count(end) for end in ("done", "turns", "wrong")), 50)


class AnswerTest(RunningCase):
    ENDS = (
        ("( def f ( fn x ( call f x ) ) ) ( def a ( call f 1 ) )", "turns", OutOfTurns),
        ("( def a ( sub 1 ( row ) ) )", "wrong", WrongKind),
        ("( def f ( fn x ( call f ( join x x ) ) ) ) ( def a ( call f ( row 1 ) ) )", "full", RowFull),
    )

    def test_a_value(self):
        for text in ("7", "( fn x x )", "( rec a 1 )", "( tag t 1 )", "( row 1 )"):
            found = ran(f"( def a 1 ) ( def b {text} )")
            self.assertEqual(plain(answer(found)), plain(found.value))
            self.assertEqual(answer(found)[-1], 1)

    def test_each_refusal(self):
        for text, end, refusal in self.ENDS:
            found = ran(text)
            self.assertEqual((found.end, found.value), (end, None))
            for taken in (refusal, FlowError, ValueError):
                with self.assertRaises(taken) as caught:
                    answer(found)
                self.assertIs(type(caught.exception), refusal)

    def test_the_fields_of_wrong_kind(self):
        for text, fields in (
            ("( def a ( sub 1 ( row ) ) )", (2, 0, 1)), ("( def a ( sub ( row ) 1 ) )", (1, 0, 0)),
            ("( def a ( row ) ) ( def b ( at ( row ) a 1 ) )", (0, 1, 1)),
        ):
            with self.assertRaises(WrongKind) as caught:
                answer(ran(text))
            self.assertEqual((caught.exception.made, caught.exception.used, caught.exception.slot), fields)

    def test_of_a_run_that_an_asker_made(self):
        self.assertEqual(answer(Run("done", ("num", 3, 4), [], [], 0)), ("num", 3, 4))
        with self.assertRaises(WrongKind) as caught:
            answer(Run("wrong", None, [(1, 2, 0), (5, 6, 1)], [], 9))
        self.assertEqual((caught.exception.made, caught.exception.used, caught.exception.slot), (5, 6, 1))
        with self.assertRaises(OutOfTurns):
            answer(Run("turns", None, [(1, 2, 0)], [], 9))
        with self.assertRaises(RowFull):
            answer(Run("full", None, [(1, 2, 0)], [], 9))


class ShownTest(unittest.TestCase):
    def test_num(self):
        for number in (0, 7, -1, -120, 10 ** 59, 10 ** 60, -(10 ** 200), 2 ** 700):
            self.assertEqual(shown_value(("num", number, 3)), f"num {number}")

    def test_fn(self):
        self.assertEqual(shown_value(ran("( def a ( fn x x ) )").value), "fn")
        self.assertEqual(shown_value(ran("( def a ( let y 1 ( fn x y ) ) )").value), "fn")

    def test_rec(self):
        self.assertEqual(shown_value(("rec", (), 3)), "rec")
        self.assertEqual(shown_value(("rec", (("x", ("num", 1, 2)),), 3)), "rec x")
        self.assertEqual(
            shown_value(("rec", (("y2", ("rec", (("z", ("num", 1, 2)),), 1)), ("x", ("num", 1, 2))), 3)), "rec y2 x")

    def test_tag(self):
        self.assertEqual(shown_value(("tag", ("t", ("tag", ("s", ("num", 1, 2)), 3)), 4)), "tag t")
        self.assertEqual(shown_value(ran("( def a ( less 1 2 ) )").value), "tag yes")

    def test_row(self):
        self.assertEqual(shown_value(("row", (), 3)), "row 0")
        self.assertEqual(shown_value(("row", (("row", (), 1), ("num", 1, 2)), 3)), "row 2")
        self.assertEqual(shown_value(("row", (("num", 1, 2),) * 60, 3)), "row 60")


def immutable(value):
    todo = [value]
    while todo:
        one = todo.pop()
        if isinstance(one, tuple):
            todo.extend(one)
        elif not isinstance(one, (int, str)) and one is not None:
            return False
    return True


class OwnTest(unittest.TestCase):
    TEXTS = (
        "( def f ( fn x ( let y ( rec a x b 2 ) ( row ( get y a ) f ) ) ) ) ( def a ( call f 1 ) )",
        "( def a ( case ( less 1 2 ) yes x ( at ( row 1 2 ) 1 3 ) no x 4 ) ) ( def b ( size a ) )",
        "( def f ( fn x ( call f x ) ) ) ( def a ( call f 1 ) )",
    )

    def told(self, found):
        return copy.deepcopy((found.end, plain(found.value), found.meets, found.had, found.begun))

    def test_what_is_handed_in_stays(self):
        for text in self.TEXTS:
            program = read(text)
            homes = homes_of(program)
            before = copy.deepcopy((vars(program), homes))
            found = run(program, homes, 200)
            self.assertEqual((vars(program), homes), before)
            found.meets.clear()
            found.had.append(7)
            self.assertEqual((vars(program), homes), before)

    def test_a_run_told_and_changed_changes_no_other(self):
        for text in self.TEXTS:
            program = read(text)
            homes = homes_of(program)
            first, second = run(program, homes, 200), run(program, homes, 200)
            before = self.told(second)
            first.meets.append((7, 7, 7))
            first.had.clear()
            first.end = "nothing"
            self.assertEqual(self.told(second), before)
            self.assertEqual(self.told(run(program, homes, 200)), before)
            program.rows.clear()
            homes.clear()
            self.assertEqual(self.told(second), before)

    def test_no_two_lists_are_one(self):
        program = read(self.TEXTS[0])
        homes = homes_of(program)
        lists = [homes, program.names, program.roots, program.rows]
        for found in (run(program, homes, 200), run(program, homes, 200), run(program, homes, 0)):
            lists += [found.meets, found.had]
        self.assertEqual(len({id(each) for each in lists}), len(lists))

    # Nothing in a value can be changed, in a function's neither.
    def test_values_are_tuples(self):
        for text in self.TEXTS[:1] + (
            "( def a ( let y ( row 1 ) ( fn x y ) ) )", "( def f ( fn x ( fn y x ) ) ) ( def a ( row ( call f f ) ) )",
            "( def a ( join ( row 1 ) ( row ( rec b 1 ) ) ) )", "( def a ( less 1 2 ) )",
        ):
            found = ran(text)
            self.assertEqual(found.end, "done")
            self.assertTrue(immutable(found.value), text)

    def test_asking_changes_no_run(self):
        for text in self.TEXTS:
            found = ran(text, 200)
            before = self.told(found)
            try:
                shown_value(answer(found))
            except FlowError:
                pass
            self.assertEqual(self.told(found), before)

    def test_a_run_holds_what_it_is_made_of(self):
        meets, had = [(1, 2, 0)], [(3, 4)]
        found = Run("done", ("num", 1, 0), meets, had, 5)
        self.assertIs(found.meets, meets)
        self.assertIs(found.had, had)
        self.assertEqual((found.end, found.value, found.begun), ("done", ("num", 1, 0), 5))

    def test_the_interface(self):
        for name, wanted in (
            ("Run", "(end, value, meets, had, begun)"), ("run", "(program, homes, turns)"), ("answer", "(run)"),
            ("shown_value", "(value)"),
        ):
            self.assertEqual(str(inspect.signature(vars(running)[name])), wanted)


if __name__ == "__main__":
    unittest.main()
