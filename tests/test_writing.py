"""[8]: written, and read again."""

import copy
import inspect
import unittest

from flowkinds.reading import Program, read
from flowkinds.writing import written

EXPRS = [
    "0", "7", "1" + "0" * 59, "9" * 60, "a", "abcdefghijkl", "(fn x x)", "(call 1 2)", "(let x 1 x)", "(rec)",
    "(rec x 1)", "(rec b 1 a 2 c3 (rec))", "(get (rec x 1) x)", "(tag t 1)", "(case 1 t x 2)",
    "(case (tag t 1) t x (fn y x) s y (case y s t t))", "(row)", "(row 1)", "(row 1 (row) (row 2 3) x)", "(at 1 2 3)",
    "(join (row) (row))", "(size (row))", "(add 1 2)", "(sub (sub 1 2) 3)", "(less 1 (less 2 3))",
    "(rec x 1 x 2)", "(case 1 t x 2 t x 3)",
]


def fields(program):
    return (program.names, program.roots, program.rows)


class WritingTest(unittest.TestCase):
    def test_each_form_alone(self):
        for expr in EXPRS:
            with self.subTest(expr):
                text = f"(def a {expr})"
                self.assertEqual(written(read(text)), text)

    def test_definitions_are_parted_by_one_line_feed(self):
        text = "\n".join(f"(def a{number} {expr})" for number, expr in enumerate(EXPRS[:12]))
        self.assertEqual(written(read(text)), text)
        self.assertEqual(written(read("(def b 1)(def a 2)")), "(def b 1)\n(def a 2)")

    def test_any_blanks_become_the_documents(self):
        for expr in EXPRS:
            text = f"(def a {expr})\n(def b (row {expr} 1))"
            loose = "\n" + text.replace("(", "\n( ").replace(")", "  )\n") + " "
            with self.subTest(expr):
                self.assertEqual(written(read(loose)), text)

    def test_read_again_it_is_the_same_program(self):
        for expr in EXPRS:
            program = read(f"( def a {expr} ) ( def b ( fn x {expr} ) )")
            with self.subTest(expr):
                self.assertEqual(fields(read(written(program))), fields(program))

    def test_the_largest_programs(self):
        eight = "(row 1 1 1 1 1 1 1 1)"
        large = f"(row {' '.join([eight] * 8)})"
        deep = "(size " * 23 + "(row)" + ")" * 23
        for text in (f"(def a (row {large} {large} {eight} 1 1 1 1))", f"(def a {deep})\n(def b {deep})"):
            self.assertEqual(written(read(text)), text)

    def test_a_program_made_by_hand(self):
        program = Program(["f", "g"], [0, 2], [("fn", "x", 1), ("name", "x"), ("call", 3, 4), ("name", "f"), ("num", 12)])
        self.assertEqual(written(program), "(def f (fn x x))\n(def g (call f 12))")

    def test_a_program_somewhat_beyond_the_bounds(self):
        rows = [("size", place + 1) for place in range(400)] + [("num", 10 ** 70)]
        self.assertEqual(
            written(Program(["a"], [0], rows)), "(def a " + "(size " * 400 + "1" + "0" * 70 + ")" * 401)
        many = Program(["a"] * 14, list(range(14)), [("num", 1)] * 14)
        self.assertEqual(written(many), "\n".join(["(def a 1)"] * 14))

    def test_what_is_handed_in_stays(self):
        for expr in EXPRS:
            program = read(f"( def a {expr} )")
            before = copy.deepcopy(fields(program))
            first = written(program)
            self.assertEqual(fields(program), before)
            self.assertEqual(written(program), first)

    def test_the_interface(self):
        self.assertEqual(list(inspect.signature(written).parameters), ["program"])


if __name__ == "__main__":
    unittest.main()
