"""[12]: weights_of and what it refuses."""

import copy
import inspect
import unittest

from flowkinds.errors import FlowError, TooHeavy
from flowkinds.homes import homes_of
from flowkinds.reading import Program, read
from flowkinds.weights import weights_of

# Each form over parts that weigh differently, with the weights of its places.
FORMS = {
    "7": [1],
    "( fn x 1 )": [2, 1],
    "( call ( size 1 ) 2 )": [4, 2, 1, 1],
    "( let x ( size 1 ) ( row 1 2 ) )": [6, 2, 1, 3, 1, 1],
    "( rec )": [1],
    "( rec x 1 )": [2, 1],
    "( rec x 1 y ( size 2 ) z 3 )": [5, 1, 2, 1, 1],
    "( get ( rec x 1 ) x )": [3, 2, 1],
    "( tag t ( row ) )": [2, 1],
    "( case 1 t x 2 )": [3, 1, 1],
    "( case ( tag t 1 ) t x ( size 2 ) s y 3 )": [6, 2, 1, 2, 1, 1],
    "( row )": [1],
    "( row 1 )": [2, 1],
    "( row 1 ( size 2 ) 3 )": [5, 1, 2, 1, 1],
    "( at ( row ) 1 ( size 2 ) )": [5, 1, 1, 2, 1],
    "( join ( row 1 ) ( row ) )": [4, 2, 1, 1],
    "( size ( row 1 2 ) )": [4, 3, 1, 1],
    "( add 1 ( size 2 ) )": [4, 1, 2, 1],
    "( sub ( size 1 ) 2 )": [4, 2, 1, 1],
    "( less 1 ( size 2 ) )": [4, 1, 2, 1],
}

EIGHT = "( row 1 1 1 1 1 1 1 1 )"


def weights(text):
    program = read(text)
    return weights_of(program, homes_of(program))


# Lets one within the next, each but the first of two names of the one ahead.
def doubled(times):
    text = f"a{times}"
    for number in range(times, 0, -1):
        text = f"( let a{number} ( add a{number - 1} a{number - 1} ) {text} )"
    return f"( let a0 1 {text} )"


# An EXPR that weighs that much, from 1 to 70.
def heavy(weight):
    times, rest = divmod(weight - 1, 3)
    return "( at 1 1 " * times + ("1", "( size 1 )", "( add 1 1 )")[rest] + " )" * times


class WeightsTest(unittest.TestCase):
    def test_each_form(self):
        for expr, wanted in FORMS.items():
            with self.subTest(expr):
                told = weights(f"( def a {expr} )")
                self.assertEqual(told, wanted)
                self.assertIs(type(told), list)

    def test_a_form_within_another(self):
        for expr, wanted in FORMS.items():
            with self.subTest(expr):
                self.assertEqual(weights(f"( def a ( size {expr} ) )"), [1 + wanted[0]] + wanted)
                self.assertEqual(weights(f"( def a 1 ) ( def b ( add 1 {expr} ) )"), [1, 2 + wanted[0], 1] + wanted)

    def test_a_name_of_a_fn(self):
        self.assertEqual(weights("( def a ( fn x x ) )"), [2, 1])
        self.assertEqual(weights("( def a ( fn x ( fn y ( row x y x ) ) ) )"), [6, 5, 4, 1, 1, 1])

    def test_a_name_of_an_arm(self):
        self.assertEqual(weights("( def a ( case ( row 1 2 ) t x x s y ( size y ) ) )"), [7, 3, 1, 1, 1, 2, 1])

    def test_a_name_of_a_let(self):
        self.assertEqual(weights("( def a ( let x 1 x ) )"), [4, 1, 2])
        self.assertEqual(weights("( def a ( let x ( row 1 2 ) x ) )"), [8, 3, 1, 1, 4])
        self.assertEqual(weights("( def a ( let x ( size 1 ) ( row x 1 x ) ) )"), [11, 2, 1, 8, 3, 1, 3])

    def test_a_let_that_is_not_named(self):
        self.assertEqual(weights(f"( def a ( let x {EIGHT} 1 ) )"), [11, 9] + [1] * 9)

    def test_a_name_of_a_let_that_holds_a_fns_name(self):
        self.assertEqual(weights("( def a ( fn x ( let y ( size x ) ( add y x ) ) ) )"), [9, 8, 2, 1, 5, 3, 1])

    def test_a_hidden_let(self):
        self.assertEqual(weights("( def a ( let x ( size 1 ) ( fn x x ) ) )"), [5, 2, 1, 2, 1])
        self.assertEqual(weights("( def a ( let x 1 ( let x ( size x ) x ) ) )"), [10, 1, 8, 3, 2, 4])

    def test_a_name_of_its_own_definition(self):
        self.assertEqual(weights("( def a ( fn x ( call a x ) ) )"), [4, 3, 1, 1])
        self.assertEqual(weights("( def b 1 ) ( def a ( fn x ( row a a b ) ) )"), [1, 6, 5, 1, 1, 2])

    def test_a_name_of_its_own_definition_in_a_let(self):
        told = weights("( def a ( fn x ( let y ( call a x ) y ) ) )")
        self.assertEqual(told, [9, 8, 3, 1, 1, 4])

    def test_a_name_of_another_definition(self):
        self.assertEqual(weights("( def a ( row 1 2 ) ) ( def b a )"), [3, 1, 1, 4])
        self.assertEqual(weights("( def a ( row 1 2 ) ) ( def b ( add a a ) )"), [3, 1, 1, 9, 4, 4])
        self.assertEqual(weights("( def a 1 ) ( def b ( size a ) ) ( def c ( add b a ) )"), [1, 3, 2, 7, 4, 2])

    def test_a_name_of_another_definition_that_names_itself(self):
        text = "( def a ( fn x ( call a x ) ) ) ( def b ( fn x ( call a b ) ) )"
        self.assertEqual(weights(text), [4, 3, 1, 1, 8, 7, 5, 1])

    def test_a_last_definition_is_another_one_to_those_ahead(self):
        text = "( def a 1 ) ( def b ( fn x a ) ) ( def c ( fn x ( row a b c ) ) )"
        self.assertEqual(weights(text), [1, 3, 2, 9, 8, 2, 4, 1])

    def test_lets_of_lets_grow_by_powers(self):
        # The name an weighs 2 ** (n + 2) - 2: 2, 6, 14, 30 ..
        self.assertEqual(weights(f"( def a {doubled(0)} )"), [4, 1, 2])
        self.assertEqual(weights(f"( def a {doubled(1)} )"), [14, 1, 12, 5, 2, 2, 6])
        told = weights(f"( def a {doubled(2)} )")
        self.assertEqual(told, [36, 1, 34, 5, 2, 2, 28, 13, 6, 6, 14])

    def test_definitions_of_definitions_grow_by_powers(self):
        text = "( def a 1 ) ( def b ( add a a ) ) ( def c ( add b b ) ) ( def d ( add c c ) )"
        self.assertEqual(weights(text), [1, 5, 2, 2, 13, 6, 6, 29, 14, 14])

    def test_a_program_made_by_hand(self):
        program = Program(["f", "g"], [0, 2], [("fn", "x", 1), ("name", "x"), ("name", "f")])
        self.assertEqual(weights_of(program, [None, ("fn", 1), ("def", 0)]), [2, 1, 3])

    def test_more_definitions_than_a_text_may_have(self):
        names = [f"a{number}" for number in range(20)]
        rows = [("num", 1)] + [("name", name) for name in names[:-1]]
        program = Program(names, list(range(20)), rows)
        self.assertEqual(weights_of(program, homes_of(program)), list(range(1, 21)))


class RefusedTest(unittest.TestCase):
    def refused(self, text, word):
        with self.subTest(text[:80]):
            with self.assertRaises(TooHeavy) as caught:
                weights(text)
            self.assertIs(type(caught.exception), TooHeavy)
            self.assertIsInstance(caught.exception, FlowError)
            self.assertEqual(caught.exception.word, word)

    def test_sixty_is_let_by_and_sixty_one_is_not(self):
        self.assertEqual(weights(f"( def a {heavy(60)} )")[0], 60)
        self.refused(f"( def a {heavy(61)} )", "a")

    def test_sixty_by_names(self):
        for weight in (59, 60):
            text = f"( def a {heavy(weight - 1)} ) ( def b a )"
            self.assertEqual(weights(text)[-1], weight)
        self.refused(f"( def a {heavy(60)} ) ( def b a )", "b")
        self.assertEqual(weights(f"( def a ( let x {heavy(28)} ( size x ) ) )")[0], 59)
        self.assertEqual(weights(f"( def a ( let x {heavy(29)} x ) )")[0], 60)
        self.refused(f"( def a ( let x {heavy(29)} ( size x ) ) )", "a")

    def test_the_first_one_that_weighs_more(self):
        self.refused(f"( def a 1 ) ( def b {heavy(61)} ) ( def c {heavy(70)} )", "b")
        self.refused(f"( def a {heavy(60)} ) ( def b 1 ) ( def c {heavy(61)} ) ( def d b )", "c")
        self.refused(f"( def a {heavy(35)} ) ( def c ( add a a ) ) ( def b c )", "c")

    def test_all_within_sixty_each(self):
        text = f"( def a {heavy(60)} ) ( def b {heavy(60)} ) ( def c 1 )"
        told = weights(text)
        program = read(text)
        self.assertEqual([told[root] for root in program.roots], [60, 60, 1])

    def test_a_later_definition_that_names_none_of_it(self):
        self.refused(f"( def z {heavy(61)} ) ( def a 1 )", "z")

    def test_powers(self):
        self.assertEqual(weights(f"( def a {doubled(2)} )")[0], 36)
        self.refused(f"( def a {doubled(3)} )", "a")
        self.refused(f"( def a 1 ) ( def b {doubled(20)} )", "b")

    def test_a_let_that_is_not_named_counts(self):
        self.refused(f"( def a ( let x {heavy(59)} 1 ) )", "a")
        self.assertEqual(weights(f"( def a ( let x {heavy(58)} 1 ) )")[0], 60)

    def test_a_program_somewhat_beyond_the_bounds(self):
        rows = [("size", place + 1) for place in range(400)] + [("num", 1)]
        with self.assertRaises(TooHeavy) as caught:
            weights_of(Program(["a"], [0], rows), [None] * 401)
        self.assertEqual(caught.exception.word, "a")
        rows = [("size", place + 1) for place in range(59)] + [("num", 1)]
        self.assertEqual(weights_of(Program(["a"], [0], rows), [None] * 60), list(range(60, 0, -1)))


class OwnTest(unittest.TestCase):
    TEXT = "( def a ( fn x ( rec p x q a ) ) ) ( def b ( case ( call a 1 ) t y ( let z y ( row z a ) ) ) )"

    def test_what_is_handed_in_stays(self):
        for text in (self.TEXT, f"( def a {heavy(61)} )"):
            program = read(text)
            homes = homes_of(program)
            before = copy.deepcopy((vars(program), homes))
            try:
                weights_of(program, homes)
            except TooHeavy:
                pass
            self.assertEqual((vars(program), homes), before)

    def test_a_list_told_is_the_askers_own(self):
        program = read(self.TEXT)
        homes = homes_of(program)
        first = weights_of(program, homes)
        kept = list(first)
        first[0] = 7
        first.clear()
        second = weights_of(program, homes)
        self.assertEqual(second, kept)
        self.assertIsNot(first, second)

    def test_the_interface(self):
        self.assertEqual(list(inspect.signature(weights_of).parameters), ["program", "homes"])


if __name__ == "__main__":
    unittest.main()
