"""[9] to [11]: homes_of and what it refuses."""

import copy
import inspect
import unittest

from flowkinds.errors import NoName, Twice
from flowkinds.homes import homes_of
from flowkinds.reading import Program, read


def homes(text):
    return homes_of(read(text))


# The homes of the names alone, as pairs of the name's place and its home.
def named(text):
    return [(place, home) for place, home in enumerate(homes(text)) if home is not None]


class HomesTest(unittest.TestCase):
    def test_one_member_for_each_place(self):
        told = homes("( def a ( fn x ( row 1 x ) ) ) ( def b 2 )")
        self.assertEqual(told, [None, None, None, ("fn", 1), None])
        self.assertIs(type(told), list)
        self.assertIs(type(told[3]), tuple)

    def test_rows_that_are_no_names(self):
        text = """( def a ( fn x ( let y ( rec p 1 q 2 ) ( call 3 ( get 4 p ) ) ) ) )
        ( def b ( case ( tag t ( row 1 ( join 2 3 ) ) ) t x ( at 4 5 ( size 6 ) ) s z ( rec ) ) )
        ( def c ( less ( add 1 2 ) ( sub 3 4 ) ) )"""
        self.assertEqual(homes(text), [None] * len(read(text).rows))

    def test_fn(self):
        self.assertEqual(named("( def a ( fn x x ) )"), [(1, ("fn", 1))])
        self.assertEqual(named("( def a ( row 1 ( fn x ( add 1 x ) ) ) )"), [(5, ("fn", 3))])

    def test_let(self):
        self.assertEqual(named("( def a ( let x 1 x ) )"), [(2, ("let", 1))])
        self.assertEqual(named("( def a ( let x ( row 1 2 ) ( row x x ) ) )"), [(5, ("let", 1)), (6, ("let", 1))])

    def test_arm(self):
        text = "( def a ( case ( tag t 1 ) t x x s x ( row 1 x ) r y y ) )"
        self.assertEqual(named(text), [(3, ("arm", 3)), (6, ("arm", 4)), (7, ("arm", 7))])

    def test_definition(self):
        text = "( def a 1 ) ( def b ( row a ) ) ( def c ( add b a ) )"
        self.assertEqual(named(text), [(2, ("def", 0)), (4, ("def", 1)), (5, ("def", 0))])

    def test_a_name_holds_in_every_form(self):
        text = """( def a ( fn x ( row ( call x x ) ( rec p x q x ) ( get x p ) ( tag t x ) ( at x x x )
        ( join x x ) ( size x ) ( row x x ) ) ) )
        ( def b ( fn x ( row ( add x x ) ( sub x x ) ( less x x ) ( fn y x ) ( let y x x ) ( case x t y x ) ) ) )"""
        program = read(text)
        bodies = [1, program.roots[1] + 1]
        for place, home in enumerate(homes_of(program)):
            if program.rows[place][0] == "name":
                self.assertEqual(home, ("fn", bodies[place > bodies[1]]))
            else:
                self.assertIsNone(home)

    def test_a_lets_name_is_not_in_its_e(self):
        self.assertEqual(named("( def a ( let x 1 ( let x x x ) ) )"), [(3, ("let", 1)), (4, ("let", 3))])
        self.assertEqual(named("( def a ( fn x ( let x x x ) ) )"), [(2, ("fn", 1)), (3, ("let", 2))])

    def test_an_arms_name_is_not_in_the_cases_e_nor_in_other_arms(self):
        text = "( def a ( fn x ( case x t x x s y x ) ) )"
        self.assertEqual(named(text), [(2, ("fn", 1)), (3, ("arm", 3)), (4, ("fn", 1))])

    def test_the_innermost_hides_the_others(self):
        self.assertEqual(named("( def a ( fn x ( fn x x ) ) )"), [(2, ("fn", 2))])
        self.assertEqual(named("( def a ( let x 1 ( fn x x ) ) )"), [(3, ("fn", 3))])
        self.assertEqual(named("( def a ( fn x ( case 1 t x x ) ) )"), [(3, ("arm", 3))])
        self.assertEqual(named("( def a ( case 1 t x ( let x 2 x ) ) )"), [(4, ("let", 3))])
        self.assertEqual(
            named("( def a ( fn x ( row ( fn x x ) x ( let x 1 x ) x ) ) )"),
            [(3, ("fn", 3)), (4, ("fn", 1)), (7, ("let", 6)), (8, ("fn", 1))])

    def test_they_hide_definitions(self):
        text = "( def a 1 ) ( def b ( row ( fn a a ) ( let a a a ) ( case a t a a ) a ) )"
        self.assertEqual(named(text), [
            (3, ("fn", 3)), (5, ("def", 0)), (6, ("let", 5)), (8, ("def", 0)), (9, ("arm", 9)), (10, ("def", 0))])

    def test_a_definitions_own_name(self):
        self.assertEqual(named("( def a ( fn x ( call a x ) ) )"), [(2, ("def", 0)), (3, ("fn", 1))])
        self.assertEqual(named("( def b 1 ) ( def a ( fn x ( fn y a ) ) )"), [(3, ("def", 1))])
        self.assertEqual(named("( def a ( fn a a ) )"), [(1, ("fn", 1))])

    def test_definitions_may_hold_one_another_backwards_alone(self):
        text = "( def a ( fn x ( call a x ) ) ) ( def b ( fn x ( call a ( call b x ) ) ) )"
        self.assertEqual(named(text), [
            (2, ("def", 0)), (3, ("fn", 1)), (6, ("def", 0)), (8, ("def", 1)), (9, ("fn", 5))])

    def test_fields_and_tags_are_no_names_that_hold(self):
        self.assertEqual(named("( def x 1 ) ( def a ( get ( rec x x ) x ) )"), [(3, ("def", 0))])
        self.assertEqual(named("( def t 1 ) ( def a ( case ( tag t 1 ) t x t ) )"), [(4, ("def", 0))])

    def test_a_program_made_by_hand(self):
        self.assertEqual(homes_of(Program(["a"], [0], [("fn", "x", 1), ("name", "x")])), [None, ("fn", 1)])

    def test_a_program_somewhat_beyond_the_bounds(self):
        rows = [("fn", "x", place + 1) for place in range(400)] + [("name", "x")]
        self.assertEqual(homes_of(Program(["a"], [0], rows)), [None] * 400 + [("fn", 400)])
        names = [f"a{number}" for number in range(14)]
        many = Program(names, list(range(14)), [("num", 1)] + [("name", "a0")] * 13)
        self.assertEqual(homes_of(many), [None] + [("def", 0)] * 13)


class RefusedTest(unittest.TestCase):
    def twice(self, text, word):
        with self.subTest(text):
            with self.assertRaises(Twice) as caught:
                homes(text)
            self.assertIs(type(caught.exception), Twice)
            self.assertEqual(caught.exception.word, word)

    def no_name(self, text, word, place):
        with self.subTest(text):
            with self.assertRaises(NoName) as caught:
                homes(text)
            self.assertIs(type(caught.exception), NoName)
            self.assertEqual((caught.exception.word, caught.exception.place), (word, place))

    def test_two_definitions_of_one_name(self):
        self.twice("( def a 1 ) ( def a 2 )", "a")
        self.twice("( def a 1 ) ( def b 2 ) ( def a 3 )", "a")
        self.twice("( def a 1 ) ( def b 2 ) ( def b 3 ) ( def a 4 )", "b")
        self.twice("( def b 1 ) ( def a 2 ) ( def b 3 ) ( def a 4 )", "b")

    def test_a_field_twice(self):
        self.twice("( def a ( rec x 1 x 2 ) )", "x")
        self.twice("( def a ( rec x 1 y 2 x 3 ) )", "x")
        self.twice("( def a ( rec x 1 y 2 y 3 x 4 ) )", "y")
        self.twice("( def a ( size ( row ( rec y 1 x 2 x 3 ) ) ) )", "x")

    def test_a_tag_twice(self):
        self.twice("( def a ( case 1 t x 1 t y 2 ) )", "t")
        self.twice("( def a ( case 1 t x 1 s y 2 s z 3 t x 4 ) )", "s")
        self.twice("( def a ( case 1 t x 1 s x 2 t x 4 ) )", "t")

    def test_what_may_come_twice(self):
        for text in (
            "( def a ( row ( rec x 1 ) ( rec x 2 ) ) )",
            "( def a ( rec x ( rec x 1 ) y ( rec y 2 ) ) )",
            "( def a ( case 1 t x 1 s x 2 ) )",
            "( def a ( case 1 t x ( case 2 t x 3 ) ) )",
            "( def a ( case 1 t t 1 s t 2 x s 3 ) )",
            "( def a ( fn a ( let a 1 ( rec a a ) ) ) )",
            "( def a ( row ( tag t 1 ) ( tag t 2 ) ) )",
        ):
            with self.subTest(text):
                homes(text)

    def test_a_name_that_holds_nowhere(self):
        self.no_name("( def a b )", "b", 0)
        self.no_name("( def a ( row 1 ( fn x y ) ) )", "y", 3)
        self.no_name("( def a ( row ( fn x 1 ) x ) )", "x", 3)
        self.no_name("( def a ( let x x 1 ) )", "x", 1)
        self.no_name("( def a ( row ( let x 1 x ) x ) )", "x", 4)
        self.no_name("( def a ( case x t x 1 ) )", "x", 1)
        self.no_name("( def a ( case 1 t x 1 s y x ) )", "x", 3)
        self.no_name("( def a ( case 1 t x 1 s y t ) )", "t", 3)
        self.no_name("( def a ( rec x 1 y x ) )", "x", 2)
        self.no_name("( def a 1 ) ( def b ( add a c ) )", "c", 3)

    def test_a_name_of_one_definition_in_another(self):
        self.no_name("( def a ( fn x x ) ) ( def b x )", "x", 2)

    def test_a_definitions_own_name_where_it_is_no_fn(self):
        self.no_name("( def a a )", "a", 0)
        self.no_name("( def a ( row ( fn x a ) ) )", "a", 2)
        self.no_name("( def a ( let y ( fn x a ) y ) )", "a", 2)
        self.no_name("( def a ( call ( fn x x ) a ) )", "a", 3)
        self.no_name("( def b 1 ) ( def a ( let x b a ) )", "a", 3)

    def test_a_later_definitions_name(self):
        self.no_name("( def a b ) ( def b 1 )", "b", 0)
        self.no_name("( def a ( fn x ( call b x ) ) ) ( def b ( fn x x ) )", "b", 2)

    def test_definitions_go_first(self):
        self.twice("( def a c ) ( def a 1 )", "a")
        self.twice("( def a ( rec x 1 x 2 ) ) ( def b 1 ) ( def b 1 )", "b")
        self.twice("( def a ( case 1 t x 2 t x 3 ) ) ( def a 1 )", "a")

    def test_the_least_place_goes_first(self):
        self.no_name("( def a ( row b ( rec x 1 x 2 ) c ) )", "b", 1)
        self.no_name("( def a ( row b c ) )", "b", 1)
        self.no_name("( def a c ) ( def b ( case 1 t x 1 t x 1 ) )", "c", 0)
        self.twice("( def a ( row ( rec x 1 x 2 ) b ) )", "x")
        self.twice("( def a ( row ( case 1 t x 1 t y 2 ) ( rec x 1 x 2 ) ) )", "t")
        self.twice("( def a ( row ( rec x 1 x 2 ) ( case 1 t x 1 t y 2 ) ) )", "x")

    def test_a_record_or_case_goes_ahead_of_what_is_in_it(self):
        self.twice("( def a ( rec x b x 2 ) )", "x")
        self.twice("( def a ( rec x ( rec y 1 y 2 ) x 2 ) )", "x")
        self.twice("( def a ( case b t x 1 t y 2 ) )", "t")
        self.twice("( def a ( case ( rec y 1 y 2 ) t x 1 t y 2 ) )", "t")
        self.no_name("( def a ( rec x b y ( rec z 1 z 1 ) ) )", "b", 1)


class OwnTest(unittest.TestCase):
    TEXT = "( def a ( fn x ( rec p x q a ) ) ) ( def b ( case ( call a 1 ) t y ( let z y ( row z a ) ) ) )"

    def test_what_is_handed_in_stays(self):
        for text in (self.TEXT, "( def a ( rec x 1 x 2 ) )", "( def a b )", "( def a 1 ) ( def a 2 )"):
            program = read(text)
            before = copy.deepcopy(vars(program))
            try:
                homes_of(program)
            except (Twice, NoName):
                pass
            self.assertEqual(vars(program), before)

    def test_a_list_told_is_the_askers_own(self):
        program = read(self.TEXT)
        first = homes_of(program)
        kept = list(first)
        first[0] = ("def", 7)
        first.append(None)
        second = homes_of(program)
        self.assertEqual(second, kept)
        self.assertIsNot(first, second)

    def test_a_list_told_holds_when_the_program_is_changed(self):
        program = read(self.TEXT)
        told = homes_of(program)
        kept = list(told)
        program.rows.clear()
        program.names.append("c")
        self.assertEqual(told, kept)

    def test_the_interface(self):
        self.assertEqual(list(inspect.signature(homes_of).parameters), ["program"])


if __name__ == "__main__":
    unittest.main()
