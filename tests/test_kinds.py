"""[31] and the second half of [33]: small kinds."""

import copy
import inspect
import random
import unittest

from flowkinds import kinds
from flowkinds.kinds import small_kinds, under

ANY = ("any",)
NUM = ("num",)
UNIT = ("rec", ())
NONE = ("choice", ())


def fn(one, other):
    return ("fn", one, other)


def rec(**fields):
    return ("rec", tuple(sorted(fields.items())))


def choice(**arms):
    return ("choice", tuple(sorted(arms.items())))


def row(kind):
    return ("row", kind)


SHAPES = [ANY, NUM, fn(NUM, NUM), UNIT, rec(x=NUM), NONE, choice(x=NUM), row(NUM)]


# The sentences of [31] one by one.
def worded(one, other):
    if other == ANY or one == NONE or one == other == NUM:
        return True
    if one[0] != other[0] or one == ANY:
        return False
    if one[0] == "fn":
        return worded(other[1], one[1]) and worded(one[2], other[2])
    if one[0] == "rec":
        return all(word in dict(one[1]) and worded(dict(one[1])[word], kind) for word, kind in other[1])
    if one[0] == "choice":
        return all(word in dict(other[1]) and worded(kind, dict(other[1])[word]) for word, kind in one[1])
    return one[0] == "row" and worded(one[1], other[1])


def some_kind(chance, nest):
    shape = chance.choice(["any", "num", "fn", "rec", "choice", "row"] if nest > 1 else ["any", "num", "none", "unit"])
    if shape in ("any", "num"):
        return (shape,)
    if shape in ("none", "unit"):
        return {"none": NONE, "unit": UNIT}[shape]
    if shape == "row":
        return row(some_kind(chance, nest - 1))
    if shape == "fn":
        return fn(some_kind(chance, nest - 1), some_kind(chance, nest - 1))
    words = sorted(chance.sample("abcdef", chance.randrange(3)))
    return (shape, tuple((word, some_kind(chance, nest - 1)) for word in words))


# A kind that differs from it in a place or two.
def changed(chance, kind):
    if chance.random() < 0.15:
        return chance.choice([ANY, NUM, UNIT, NONE])
    if kind[0] == "fn":
        return fn(changed(chance, kind[1]), changed(chance, kind[2]))
    if kind[0] == "row":
        return row(changed(chance, kind[1]))
    if kind[0] in ("rec", "choice"):
        members = {word: changed(chance, part) for word, part in kind[1] if chance.random() < 0.9}
        if chance.random() < 0.1:
            members["g"] = NUM
        return (kind[0], tuple(sorted(members.items())))
    return kind


class UnderTest(unittest.TestCase):
    def asked(self, one, other, wanted):
        before = copy.deepcopy((one, other))
        with self.subTest(one=one, other=other):
            self.assertIs(under(one, other), wanted)
            self.assertEqual((one, other), before)

    # The first is under the second, and not the other way round.
    def below(self, one, other):
        self.asked(one, other, True)
        self.asked(other, one, False)

    def alike(self, one, other):
        self.asked(one, other, True)
        self.asked(other, one, True)

    def apart(self, one, other):
        self.asked(one, other, False)
        self.asked(other, one, False)

    def test_itself(self):
        for kind in SHAPES + [rec(x=NUM, y=row(ANY)), choice(s=NUM, t=UNIT), fn(fn(NUM, ANY), NONE), row(row(NONE))]:
            self.asked(kind, kind, True)

    def test_any(self):
        self.asked(ANY, ANY, True)
        for kind in SHAPES:
            if kind != ANY:
                self.below(kind, ANY)

    def test_the_empty_choice(self):
        for kind in SHAPES:
            if kind != NONE:
                self.below(NONE, kind)

    def test_different_shapes(self):
        ones = [kind for kind in SHAPES if kind not in (ANY, NONE)]
        for one in ones:
            for other in ones:
                if one[0] != other[0]:
                    self.apart(one, other)

    def test_fn_is_turned_in_its_first_part(self):
        self.below(fn(ANY, NUM), fn(NUM, NUM))
        self.below(fn(NUM, NUM), fn(NONE, NUM))
        self.below(fn(rec(x=NUM), NUM), fn(rec(x=NUM, y=NUM), NUM))
        self.apart(fn(NUM, NUM), fn(UNIT, NUM))

    def test_fn_in_its_second_part(self):
        self.below(fn(NUM, NUM), fn(NUM, ANY))
        self.below(fn(NUM, NONE), fn(NUM, NUM))
        self.apart(fn(NUM, NUM), fn(NUM, UNIT))

    def test_fn_in_both_parts(self):
        self.below(fn(ANY, NONE), fn(NONE, ANY))
        self.below(fn(ANY, NUM), fn(NUM, ANY))
        self.apart(fn(ANY, ANY), fn(NUM, NUM))
        self.apart(fn(NUM, NUM), fn(ANY, ANY))
        self.apart(fn(NUM, NONE), fn(ANY, NUM))

    def test_fn_turned_twice(self):
        self.below(fn(fn(NUM, NUM), NUM), fn(fn(ANY, NUM), NUM))
        self.below(fn(fn(NUM, ANY), NUM), fn(fn(NUM, NUM), NUM))
        self.below(fn(fn(fn(ANY, NUM), NUM), NUM), fn(fn(fn(NUM, NUM), NUM), NUM))

    def test_rec_with_fields_more(self):
        self.below(rec(x=NUM), UNIT)
        self.below(rec(x=NUM, y=ANY), rec(x=NUM))
        self.below(rec(x=NUM, y=ANY), rec(y=ANY))
        self.below(rec(a=NUM, b=NUM, c=NUM, d=NUM, e=NUM, f=NUM), rec(b=NUM, e=NUM))

    def test_rec_with_other_fields(self):
        self.apart(rec(x=NUM), rec(y=NUM))
        self.apart(rec(x=NUM, y=NUM), rec(x=NUM, z=NUM))
        self.apart(rec(x=NUM, y=NUM), rec(x=UNIT))
        self.apart(rec(x=NUM), rec(x=row(NUM)))

    def test_rec_with_kinds_in_it(self):
        self.below(rec(x=NUM), rec(x=ANY))
        self.below(rec(x=NONE, y=NUM), rec(x=NUM))
        self.below(rec(x=NONE, y=NUM), rec(x=NUM, y=ANY))
        self.apart(rec(x=ANY, y=NUM), rec(x=NUM, y=ANY))
        self.apart(rec(x=ANY, y=NUM), rec(x=NUM))
        self.below(rec(x=rec(a=NUM, b=NUM)), rec(x=rec(b=NUM)))

    # A record has to have the field, though nothing could be in it.
    def test_rec_with_an_empty_choice_in_it(self):
        self.apart(rec(x=NONE), rec(y=ANY))
        self.below(rec(x=NONE), rec(x=ANY))
        self.below(rec(x=NONE), UNIT)

    def test_choice_with_tags_more(self):
        self.below(choice(s=NUM), choice(s=NUM, t=ANY))
        self.below(choice(t=ANY), choice(s=NUM, t=ANY))
        self.below(choice(b=NUM, e=NUM), choice(a=NUM, b=NUM, c=NUM, d=NUM, e=NUM, f=NUM))

    def test_choice_with_other_tags(self):
        self.apart(choice(s=NUM), choice(t=NUM))
        self.apart(choice(s=NUM, t=NUM), choice(s=NUM, u=NUM))
        self.apart(choice(s=NUM), choice(s=UNIT, t=NUM))
        self.apart(choice(s=NUM), choice(s=row(NUM)))

    def test_choice_with_kinds_in_it(self):
        self.below(choice(s=NUM), choice(s=ANY))
        self.below(choice(s=NONE), choice(s=NUM, t=NUM))
        self.apart(choice(s=ANY, t=NUM), choice(s=NUM, t=ANY))
        self.apart(choice(s=ANY), choice(s=NUM, t=NUM))
        self.apart(choice(s=NONE), NUM)

    def test_row(self):
        self.below(row(NUM), row(ANY))
        self.below(row(NONE), row(NUM))
        self.apart(row(NUM), row(UNIT))
        self.below(row(row(rec(x=NUM))), row(row(UNIT)))
        self.apart(row(NONE), NUM)
        self.apart(row(row(NUM)), row(NUM))

    def test_all_of_the_small_kinds(self):
        ones = small_kinds("x")
        count = 0
        for one in ones:
            for other in ones:
                self.asked(one, other, worded(one, other))
                count += worded(one, other)
        self.assertEqual(count, 177)

    def test_as_the_words_go(self):
        chance = random.Random(4)
        found = {True: 0, False: 0}
        for _ in range(600):
            one = some_kind(chance, 6)
            other = changed(chance, one)
            self.asked(one, other, worded(one, other))
            self.asked(other, one, worded(other, one))
            found[worded(one, other)] += 1
        self.assertGreater(min(found.values()), 100)

    def test_beyond_the_bounds(self):
        one, other = NUM, ANY
        for _ in range(300):
            one, other = row(one), row(other)
        self.below(one, other)
        words = [f"a{k:03}" for k in range(200)]
        self.below(("rec", tuple((word, NUM) for word in words)), ("rec", tuple((word, ANY) for word in words)))
        arms = tuple((word, NUM) for word in words)
        self.below(("choice", arms[1:]), ("choice", arms))


class SmallKindsTest(unittest.TestCase):
    def test_in_order(self):
        for x in ("x", "a12345678901", "num", "to"):
            self.assertEqual(small_kinds(x), [
                ("any",), ("num",), ("rec", ()), ("choice", ()),
                ("fn", ("any",), ("any",)), ("fn", ("any",), ("num",)), ("fn", ("any",), ("rec", ())),
                ("fn", ("any",), ("choice", ())),
                ("fn", ("num",), ("any",)), ("fn", ("num",), ("num",)), ("fn", ("num",), ("rec", ())),
                ("fn", ("num",), ("choice", ())),
                ("fn", ("rec", ()), ("any",)), ("fn", ("rec", ()), ("num",)), ("fn", ("rec", ()), ("rec", ())),
                ("fn", ("rec", ()), ("choice", ())),
                ("fn", ("choice", ()), ("any",)), ("fn", ("choice", ()), ("num",)),
                ("fn", ("choice", ()), ("rec", ())), ("fn", ("choice", ()), ("choice", ())),
                ("rec", ((x, ("any",)),)), ("rec", ((x, ("num",)),)), ("rec", ((x, ("rec", ())),)),
                ("rec", ((x, ("choice", ())),)),
                ("choice", ((x, ("any",)),)), ("choice", ((x, ("num",)),)), ("choice", ((x, ("rec", ())),)),
                ("choice", ((x, ("choice", ())),)),
                ("row", ("any",)), ("row", ("num",)), ("row", ("rec", ())), ("row", ("choice", ())),
            ])

    def test_thirty_two_and_none_twice(self):
        found = small_kinds("x")
        self.assertIs(type(found), list)
        self.assertEqual((len(found), len(set(found))), (32, 32))
        self.assertTrue(all(type(kind) is tuple for kind in found))

    def test_what_is_told_is_the_askers_own(self):
        first = small_kinds("x")
        before = list(first)
        first.clear()
        second = small_kinds("x")
        self.assertEqual(second, before)
        second[0] = 7
        self.assertEqual(small_kinds("x"), before)
        self.assertIsNot(small_kinds("x"), small_kinds("x"))

    def test_the_interface(self):
        self.assertEqual(str(inspect.signature(kinds.under)), "(one, other)")
        self.assertEqual(str(inspect.signature(kinds.small_kinds)), "(word)")


if __name__ == "__main__":
    unittest.main()
