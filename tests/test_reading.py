"""[5] to [8]: what read tells, what it refuses, and its bounds."""

import inspect
import unittest

from flowkinds import reading
from flowkinds.errors import BadText
from flowkinds.reading import Program, read, words_of

KEPT = "def fn call let rec get tag case row at join size add sub less".split()

# Each form with its row when it is the EXPR of the first definition.
FORMS = {
    "7": ("num", 7),
    "a": ("name", "a"),
    "( fn x 1 )": ("fn", "x", 1),
    "( call 1 2 )": ("call", 1, 2),
    "( let x 1 2 )": ("let", "x", 1, 2),
    "( rec )": ("rec", ()),
    "( rec x 1 )": ("rec", (("x", 1),)),
    "( rec y 1 x 2 )": ("rec", (("y", 1), ("x", 2))),
    "( get 1 x )": ("get", 1, "x"),
    "( tag t 1 )": ("tag", "t", 1),
    "( case 1 t x 2 )": ("case", 1, (("t", "x", 2),)),
    "( case 1 t x 2 s y 3 )": ("case", 1, (("t", "x", 2), ("s", "y", 3))),
    "( row )": ("row", ()),
    "( row 1 )": ("row", (1,)),
    "( row 1 2 3 )": ("row", (1, 2, 3)),
    "( at 1 2 3 )": ("at", 1, 2, 3),
    "( join 1 2 )": ("join", 1, 2),
    "( size 1 )": ("size", 1),
    "( add 1 2 )": ("add", 1, 2),
    "( sub 1 2 )": ("sub", 1, 2),
    "( less 1 2 )": ("less", 1, 2),
}

# Each form that can hold an EXPR, with the mark # where that one stands.
HOLDERS = [
    "( fn x # )", "( call # 1 )", "( call 1 # )", "( let x # 1 )", "( let x 1 # )", "( rec x # )",
    "( rec x 1 y # )", "( get # x )", "( tag t # )", "( case # t x 1 )", "( case 1 t x # )",
    "( case 1 t x 1 s y # )", "( row # )", "( row 1 # )", "( at # 1 1 )", "( at 1 # 1 )", "( at 1 1 # )",
    "( join # 1 )", "( join 1 # )", "( size # )", "( add # 1 )", "( add 1 # )", "( sub # 1 )", "( sub 1 # )",
    "( less # 1 )", "( less 1 # )",
]

FULL = """( def f ( fn x ( let y ( rec a x b 2 ) ( call f ( get y a ) ) ) ) )
( def g ( case ( tag t ( row 1 ( join ( row ) ( row ) ) ) ) t x ( at x 0 ( size x ) ) s z ( rec ) ) )
( def h ( less ( add 1 2 ) ( sub 3 4 ) ) )"""


def nested(holder, times, inmost):
    text = inmost
    for _ in range(times):
        text = holder.replace("#", text)
    return text


class ReadingCase(unittest.TestCase):
    def program(self, text):
        told = read(text)
        self.assertIs(type(told), Program)
        return told

    def refused(self, text):
        with self.subTest(text[:80]), self.assertRaises(BadText):
            read(text)

    def expr_refused(self, expr):
        self.refused(f"( def a {expr} )")


class FormsTest(ReadingCase):
    def test_each_form(self):
        for expr, row in FORMS.items():
            with self.subTest(expr):
                told = self.program(f"( def a {expr} )")
                self.assertEqual(told.names, ["a"])
                self.assertEqual(told.roots, [0])
                self.assertEqual(told.rows[0], row)
                self.assertIs(type(told.rows[0]), tuple)

    def test_the_kinds_of_what_is_told(self):
        told = self.program(FULL)
        for field in (told.names, told.roots, told.rows):
            self.assertIs(type(field), list)

    def test_places_are_numbered_through_all_definitions(self):
        told = self.program(FULL)
        self.assertEqual(told.names, ["f", "g", "h"])
        self.assertEqual(told.roots, [0, 9, 22])
        self.assertEqual(told.rows, [
            ("fn", "x", 1), ("let", "y", 2, 5), ("rec", (("a", 3), ("b", 4))), ("name", "x"), ("num", 2),
            ("call", 6, 7), ("name", "f"), ("get", 8, "a"), ("name", "y"),
            ("case", 10, (("t", "x", 16), ("s", "z", 21))), ("tag", "t", 11), ("row", (12, 13)), ("num", 1),
            ("join", 14, 15), ("row", ()), ("row", ()), ("at", 17, 18, 19), ("name", "x"), ("num", 0),
            ("size", 20), ("name", "x"), ("rec", ()),
            ("less", 23, 26), ("add", 24, 25), ("num", 1), ("num", 2), ("sub", 27, 28), ("num", 3), ("num", 4),
        ])

    def test_blanks_do_not_matter(self):
        tight = FULL.replace("( ", "(").replace(" )", ")").replace("\n", "")
        loose = "\n\n " + FULL.replace(" ", " \n  ") + "\n "
        for text in (tight, loose):
            self.assertEqual(vars(self.program(text)), vars(self.program(FULL)))

    def test_names_that_mean_nothing_or_come_twice_are_let_by(self):
        self.assertEqual(self.program("( def a b )").rows, [("name", "b")])
        self.assertEqual(self.program("( def a a )").rows, [("name", "a")])
        self.assertEqual(self.program("( def a 1 ) ( def a 2 )").names, ["a", "a"])
        self.assertEqual(self.program("( def a ( rec x 1 x 2 ) )").rows[0], ("rec", (("x", 1), ("x", 2))))
        self.assertEqual(
            self.program("( def a ( case 1 t x 2 t y 3 ) )").rows[0], ("case", 1, (("t", "x", 2), ("t", "y", 3))))


class BoundsTest(ReadingCase):
    def test_definitions(self):
        for count in (1, 2, 12):
            text = " ".join(f"( def a{number} {number} )" for number in range(count))
            told = self.program(text)
            self.assertEqual(told.names, [f"a{number}" for number in range(count)])
            self.assertEqual(told.roots, list(range(count)))
            self.assertEqual(told.rows, [("num", number) for number in range(count)])
        self.refused("")
        self.refused("( def a 1 ) " * 13)

    def test_fields(self):
        for count in (0, 1, 6):
            fields = " ".join(f"x{number} 1" for number in range(count))
            row = self.program(f"( def a ( rec {fields} ) )").rows[0]
            self.assertEqual(row, ("rec", tuple((f"x{number}", number + 1) for number in range(count))))
        self.expr_refused("( rec " + "x 1 " * 7 + ")")

    def test_arms(self):
        for count in (1, 6):
            arms = " ".join(f"t{number} x{number} 1" for number in range(count))
            row = self.program(f"( def a ( case 1 {arms} ) )").rows[0]
            self.assertEqual(
                row, ("case", 1, tuple((f"t{number}", f"x{number}", number + 2) for number in range(count))))
        self.expr_refused("( case 1 )")
        self.expr_refused("( case 1 " + "t x 1 " * 7 + ")")

    def test_things(self):
        for count in (0, 1, 8):
            row = self.program("( def a ( row " + "1 " * count + ") )").rows[0]
            self.assertEqual(row, ("row", tuple(range(1, count + 1))))
        self.expr_refused("( row " + "1 " * 9 + ")")

    def test_places(self):
        eight = "( row " + "1 " * 8 + ") "
        large = "( row " + eight * 8 + ") "
        self.assertEqual(len(self.program(f"( def a {large} )").rows), 73)
        within = f"( def a ( row {large} {large} {eight} " + "1 " * 4 + ") )"
        self.assertEqual(len(self.program(within).rows), 160)
        self.refused(f"( def a ( row {large} {large} {eight} " + "1 " * 5 + ") )")
        through = f"( def a {large} ) ( def b {large} ) ( def c ( row {eight} "
        self.assertEqual(len(self.program(through + "1 1 1 1 ) )").rows), 160)
        self.assertEqual(len(self.program(through + "1 1 1 ) ) ( def d 1 )").rows), 160)
        self.refused(through + "1 1 1 1 1 ) )")
        self.refused(through + "1 1 1 1 ) ) ( def d 1 )")

    def test_nests(self):
        for holder in HOLDERS:
            for inmost in ("1", "b", "( rec )", "( row )"):
                with self.subTest(holder, inmost=inmost):
                    self.program("( def a " + nested(holder, 23, inmost) + " )")
                    self.expr_refused(nested(holder, 24, inmost))

    def test_a_nest_in_a_later_definition(self):
        deep = nested("( size # )", 23, "1")
        self.assertEqual(len(self.program(f"( def a {deep} ) ( def b {deep} )").rows), 48)
        self.refused(f"( def a 1 ) ( def b ( size {deep} ) )")

    def test_the_longest_texts(self):
        self.refused("(" * 30000)
        self.refused(("( def a " + "( size " * 6000)[:30000])
        self.refused("( def a ( size " + "( case " * 4000)
        self.refused("( def a " + "1" * 29000 + " )")
        self.refused("( def " + "a" * 29000 + " 1 )")
        self.refused("( def a ( rec" + " x 1" * 7000 + " ) )")
        self.refused("( def a 1 ) " * 2400)
        self.program("( def a 1 )" + " " * 29900)


class RefusedTest(ReadingCase):
    def test_no_words(self):
        for text in ("", " ", "\n", " \n "):
            self.refused(text)

    def test_a_text_cut_off(self):
        for form in FORMS:
            words = words_of(f"( def a {form} )")
            for count in range(len(words)):
                self.refused(" ".join(words[:count]))

    def test_a_bracket_left_out_or_too_many(self):
        words = words_of(FULL)
        for number, word in enumerate(words):
            if word in ("(", ")"):
                self.refused(" ".join(words[:number] + words[number + 1:]))
                self.refused(" ".join(words[:number] + [word] + words[number:]))

    def test_another_word_in_the_place_of_a_bracket(self):
        words = words_of(FULL)
        for number, word in enumerate(words):
            if word in ("(", ")"):
                for other in ("(", ")", "[", "a", "1", "row"):
                    if other != word:
                        self.refused(" ".join(words[:number] + [other] + words[number + 1:]))

    def test_a_word_behind_the_end_or_ahead_of_the_begin(self):
        for word in ("a", "1", "(", ")", "def", "( )", "#", "( fn x 1 )", "\t"):
            self.refused(f"( def a 1 ) {word}")
            self.refused(f"{word} ( def a 1 )")
            self.refused(f"( def a 1 ) {word} ( def b 1 )")
            self.refused(f"( def a 1 {word} )")

    def test_a_text_that_is_no_definition(self):
        for text in ("1", "a", "( )", "( fn x 1 )", "( a 1 )", "( def )", "( def a )", "( def 1 )", "def a 1", "( ( def a 1 ) )"):
            self.refused(text)
        self.expr_refused("( def b 1 )")

    def test_an_odd_word(self):
        for word in ("A", "a_", "-1", "01", "1a", "#", "\t", "a\tb", "a" * 13, "1" * 61, ";", "aB"):
            self.expr_refused(word)
            self.expr_refused(f"( {word} 1 )")
            for holder in HOLDERS:
                self.expr_refused(holder.replace("#", word))
        self.refused("( def\ta 1 )")
        self.refused("( def a 1\t)")

    def test_a_kept_word_or_a_number_for_a_name(self):
        for word in KEPT + ["0", "1", "60", "(", ")", "A"]:
            self.refused(f"( def {word} 1 )")
            self.expr_refused(f"( fn {word} 1 )")
            self.expr_refused(f"( let {word} 1 1 )")
            self.expr_refused(f"( rec {word} 1 )")
            self.expr_refused(f"( rec x 1 {word} 1 )")
            self.expr_refused(f"( get 1 {word} )")
            self.expr_refused(f"( tag {word} 1 )")
            self.expr_refused(f"( case 1 {word} x 1 )")
            self.expr_refused(f"( case 1 t {word} 1 )")

    def test_a_kept_word_for_an_expr(self):
        for word in KEPT:
            self.expr_refused(word)
            self.expr_refused(f"( size {word} )")

    def test_a_part_too_many_or_left_out(self):
        for form in FORMS:
            words = words_of(form)
            if len(words) == 1:
                continue
            for number in range(1, len(words) - 1):
                if words[1] != "row" or number == 1:
                    self.expr_refused(" ".join(words[:number] + words[number + 1:]))
            if words[1] != "row":
                self.expr_refused(" ".join(words[:-1] + ["1", ")"]))
                self.expr_refused(" ".join(words[:-1] + ["x", ")"]))

    def test_a_word_that_is_no_form(self):
        for head in ("", "1", "x", "num", "name", "(", ")", "FN", "if", "choice", "call call"):
            self.expr_refused(f"( {head} )")
            self.expr_refused(f"( {head} 1 2 )")


class OwnTest(ReadingCase):
    def test_a_program_holds_the_very_lists_it_is_made_of(self):
        names, roots, rows = ["a"], [0], [("num", 1)]
        one = Program(names, roots, rows)
        self.assertIs(one.names, names)
        self.assertIs(one.roots, roots)
        self.assertIs(one.rows, rows)

    def test_what_is_told_is_the_askers_own(self):
        first = read("( def a 0 )")
        first.names.append("b")
        first.roots.append(1)
        first.rows[0] = ("num", 5)
        self.assertEqual(vars(read("( def a 0 )")), {"names": ["a"], "roots": [0], "rows": [("num", 0)]})

    def test_no_two_lists_are_one(self):
        one, other = read("( def a 1 )"), read("( def a 1 )")
        lists = [one.names, one.roots, one.rows, other.names, other.roots, other.rows]
        self.assertEqual(len({id(told) for told in lists}), 6)

    def test_the_interface(self):
        arguments = {"Program": ["names", "roots", "rows"], "words_of": ["text"], "is_name": ["word"], "read": ["text"]}
        for name, wanted in arguments.items():
            self.assertEqual(list(inspect.signature(getattr(reading, name)).parameters), wanted)


if __name__ == "__main__":
    unittest.main()
