"""[28], with [17] and [26]: papers made short."""

import copy
import inspect
import random
import unittest

from flowkinds import shortening
from flowkinds.homes import homes_of
from flowkinds.laying import laid
from flowkinds.papers import Paper
from flowkinds.polar import paper_of
from flowkinds.reading import read
from flowkinds.settling import settled
from flowkinds.shortening import short_of

NUM = ("num",)
ANY = ("any",)

PROGRAM = """( def twice ( fn f ( fn x ( call f ( call f x ) ) ) ) )
( def down ( fn n ( case ( less n 1 ) yes u n no v ( call down ( sub n 1 ) ) ) ) )
( def list ( fn n ( case ( less n 1 ) yes u ( tag nil ( rec ) )
no v ( tag cons ( rec head n tail ( call list ( sub n 1 ) ) ) ) ) ) )
( def all ( let r ( rec a twice b ( row 1 2 ) ) ( call ( call ( get r a ) down ) ( at ( get r b ) 0 3 ) ) ) )
( def sum ( fn l ( case l nil u 0 cons c ( add ( get c head ) ( call sum ( get c tail ) ) ) ) ) )"""


def parts(thing, side):
    other = "in" if side == "out" else "out"
    if thing[0] in ("fn", "call"):
        return [(other, thing[1]), (side, thing[2])]
    if thing[0] in ("rec", "take", "case"):
        return [(side, number) for _, number in thing[1]]
    return [(side, thing[-1])] if thing[0] in ("tag", "row") else []


def with_parts(thing, side, numbers):
    other = "in" if side == "out" else "out"
    if thing[0] in ("fn", "call"):
        return (thing[0], numbers[other, thing[1]], numbers[side, thing[2]])
    if thing[0] in ("rec", "take", "case"):
        return (thing[0], tuple((word, numbers[side, number]) for word, number in thing[1]))
    return thing[:-1] + (numbers[side, thing[-1]],) if thing[0] in ("tag", "row") else thing


# The short paper as the document's words go, by pairs: all pairs that may be
# one stand together at first, and each that can't stay together is taken out,
# until none is left to be taken out.
class Wording:
    def __init__(self, paper):
        self.things = {("out", k): one for k, one in enumerate(paper.outs)}
        self.things.update({("in", k): one for k, one in enumerate(paper.ins)})
        come = self.queue(lambda one: self.things[one])
        flows = {(("in", i), ("out", o)) for i, o in paper.flows if ("in", i) in come and ("out", o) in come}
        self.together = {
            (a, b) for a in come for b in come if a[0] == b[0]
            and {i for i, o in flows if o == a} == {i for i, o in flows if o == b}
            and {o for i, o in flows if i == a} == {o for i, o in flows if i == b}}
        while True:
            apart = {(a, b) for a, b in self.together if not self.stay(a, b)}
            if not apart:
                break
            self.together -= apart
        self.least = {a: min(b for b in come if (a, b) in self.together) for a in come}
        order = self.queue(lambda one: self.put(self.things[one], one[0], self.names(self.least)))
        numbers = {}
        for one in order:
            numbers[one] = len([side for side, _ in numbers if side == one[0]])
        new = {one: numbers[self.least[one]] for one in come}
        kept = {side: [self.put(self.things[one], side, new) for one in order if one[0] == side]
                for side in ("out", "in")}
        self.paper = Paper(kept["out"], kept["in"], sorted({(new[i], new[o]) for i, o in flows}))
        self.out_map = [new.get(("out", k)) for k in range(len(paper.outs))]
        self.in_map = [new.get(("in", k)) for k in range(len(paper.ins))]

    def names(self, least):
        return {one: number for one, (_, number) in least.items()}

    def put(self, things, side, numbers):
        return tuple(dict.fromkeys(with_parts(thing, side, numbers) for thing in things))

    def queue(self, things):
        queue = [("out", 0)]
        for one in queue:
            for part in [part for thing in things(one) for part in parts(thing, one[0])]:
                queue += [part] if part not in queue else []
        return queue

    def stay(self, a, b):
        return self.within(a, b) and self.within(b, a)

    def within(self, a, b):
        return all(any(self.alike(x, y, a[0]) for y in self.things[b]) for x in self.things[a])

    def alike(self, x, y, side):
        if x[0] != y[0] or (x[0] == "tag" and x[1] != y[1]):
            return False
        if x[0] in ("rec", "take", "case") and [word for word, _ in x[1]] != [word for word, _ in y[1]]:
            return False
        return all(pair in self.together for pair in zip(parts(x, side), parts(y, side)))


def some_pairs(chance, count):
    words = sorted(chance.sample(["a", "b", "b0", "ba"], chance.randrange(4)))
    return tuple((word, chance.randrange(count)) for word in words)


def some_making(chance, outs, ins):
    out = chance.randrange(outs)
    choices = [NUM, ANY, ("rec", some_pairs(chance, outs)), ("tag", chance.choice("st"), out), ("row", out)]
    if ins:
        choices += [("fn", chance.randrange(ins), out)] * 3
    return chance.choice(choices)


def some_use(chance, outs, ins):
    one = chance.randrange(ins)
    return chance.choice([
        NUM, ("call", chance.randrange(outs), one), ("call", chance.randrange(outs), one),
        ("take", some_pairs(chance, ins)), ("case", some_pairs(chance, ins)), ("row", one)])


def some_paper(seed, outs, ins, most, flows):
    chance = random.Random(seed)

    def some(make):
        return tuple(dict.fromkeys(make(chance, outs, ins) for _ in range(chance.randrange(most + 1))))

    return Paper(
        [some(some_making) for _ in range(outs)], [some(some_use) for _ in range(ins)],
        sorted({(chance.randrange(ins), chance.randrange(outs)) for _ in range(flows if ins else 0)}))


# Each out and in several times over, in whatever order, each naming any of the
# copies, its things in another order and some of them twice in that way.
def blown_up(paper, seed, times):
    chance = random.Random(seed)
    places = {}
    for side, things in (("out", paper.outs), ("in", paper.ins)):
        copies = [one for one in range(len(things)) for _ in range(times)][1:]
        chance.shuffle(copies)
        copies = [0] + copies if side == "out" else copies
        for number, one in enumerate(copies):
            places.setdefault((side, one), []).append(number)

    def pick(things, side):
        found = []
        for thing in things + things[:1]:
            numbers = {part: chance.choice(places[part]) for part in parts(thing, side)}
            found.append(with_parts(thing, side, numbers))
        chance.shuffle(found)
        return tuple(dict.fromkeys(found))

    told = {}
    for side, things in (("out", paper.outs), ("in", paper.ins)):
        where = {number: one for (part, one), numbers in places.items() if part == side for number in numbers}
        told[side] = [pick(things[where[number]], side) for number in range(len(where))]
    flows = [(i, o) for one, other in paper.flows for i in places.get(("in", one), []) for o in places["out", other]]
    return Paper(told["out"], told["in"], sorted(flows))


class ShortCase(unittest.TestCase):
    maxDiff = None

    def told(self, paper):
        before = copy.deepcopy(vars(paper))
        told = short_of(paper)
        self.assertEqual(vars(paper), before)
        self.assertIs(type(told), tuple)
        self.assertEqual(len(told), 3)
        self.assertIs(type(told[0]), Paper)
        for one in (told[0].outs, told[0].ins, told[0].flows, told[1], told[2]):
            self.assertIs(type(one), list)
        for one in told[0].outs + told[0].ins + told[0].flows:
            self.assertIs(type(one), tuple)
        return told

    def short(self, paper, outs, ins, flows, out_map, in_map):
        with self.subTest(vars(paper)):
            told = self.told(paper)
            self.assertEqual(told[0].outs, outs)
            self.assertEqual(told[0].ins, ins)
            self.assertEqual(told[0].flows, flows)
            self.assertEqual(told[1], out_map)
            self.assertEqual(told[2], in_map)

    def stays(self, outs, ins=(), flows=()):
        self.short(
            Paper(list(outs), list(ins), list(flows)), list(outs), list(ins), list(flows),
            list(range(len(outs))), list(range(len(ins))))

    def worded(self, paper):
        wording = Wording(paper)
        self.short(
            paper, wording.paper.outs, wording.paper.ins, wording.paper.flows, wording.out_map, wording.in_map)
        self.stays(wording.paper.outs, wording.paper.ins, wording.paper.flows)
        return wording


class LeftOutTest(ShortCase):
    def test_an_out_and_no_ins(self):
        for making in ((), (NUM,), (ANY,), (("rec", ()),), (NUM, ANY), (("row", 0),)):
            self.stays([making])

    def test_outs_and_ins_that_are_not_come_to(self):
        self.short(
            Paper([(NUM,), (("row", 0),), (("fn", 0, 1),)], [(NUM,), (("call", 0, 1),)], []),
            [(NUM,)], [], [], [0, None, None], [None, None])

    def test_those_between_and_ahead(self):
        self.short(
            Paper([(("fn", 2, 3),), (NUM,), (ANY,), (("row", 3),)], [(NUM,), (), (("row", 3),), (NUM,)], []),
            [(("fn", 0, 1),), (("row", 1),)], [(("row", 1),), (NUM,)], [], [0, None, None, 1], [None, None, 0, 1])

    # In 1 and out 2 are not come to, so their flows keep nothing apart.
    def test_with_their_flows(self):
        outs = [(("rec", (("x", 1), ("y", 3))),), (NUM,), (ANY,), (NUM,)]
        self.short(
            Paper(outs, [(NUM,), ()], [(0, 0), (0, 2), (1, 1), (1, 2)]),
            [(("rec", (("x", 1), ("y", 1))),), (NUM,)], [], [], [0, 1, None, 1], [None, None])
        outs = [(("fn", 0, 1), ("fn", 1, 1)), (), ()]
        self.short(
            Paper(outs, [(NUM,), (NUM,)], [(0, 1), (1, 1), (1, 2)]),
            [(("fn", 0, 1),), ()], [(NUM,)], [(0, 1)], [0, 1, None], [0, 0])

    # Out 1 names outs that out 0 names, but nothing names out 1.
    def test_what_only_they_name(self):
        self.short(
            Paper([(("row", 3),), (("row", 2),), (ANY,), (NUM,)], [], []),
            [(("row", 1),), (NUM,)], [], [], [0, None, None, 1], [])


class OutsTest(ShortCase):
    def test_two_that_become_one(self):
        for making in (NUM, ANY, ("rec", ()), ("row", 0), ("tag", "t", 0), ("rec", (("x", 0),)), ("rec", (("z", 2),))):
            outs = [(("rec", (("x", 1), ("y", 2))),), (making,), (making,)]
            new = ("rec", (("z", 1),)) if making == ("rec", (("z", 2),)) else making
            self.short(
                Paper(outs, [], []), [(("rec", (("x", 1), ("y", 1))),), (new,)], [], [], [0, 1, 1], [])
        self.short(
            Paper([(("rec", (("x", 1), ("y", 2))),), (), ()], [], []),
            [(("rec", (("x", 1), ("y", 1))),), ()], [], [], [0, 1, 1], [])

    def test_two_that_make_otherwise(self):
        makings = [(), (NUM,), (ANY,), (("rec", ()),), (("rec", (("a", 0),)),), (("rec", (("b", 0),)),),
                   (("rec", (("a", 0), ("b", 0))),), (("row", 0),), (("tag", "s", 0),), (("tag", "t", 0),),
                   (NUM, ANY), (NUM, ("row", 0))]
        for one in makings:
            for other in makings:
                if one != other:
                    self.stays([(("rec", (("x", 1), ("y", 2))),), one, other])

    def test_two_into_which_the_same_ins_go(self):
        outs = [(("fn", 0, 1), ("fn", 1, 2)), (NUM,), (NUM,)]
        ins = [(NUM,), (("row", 0),)]
        self.short(
            Paper(outs, ins, [(0, 1), (0, 2), (1, 1), (1, 2)]),
            [(("fn", 0, 1), ("fn", 1, 1)), (NUM,)], ins, [(0, 1), (1, 1)], [0, 1, 1], [0, 1])

    def test_two_into_which_other_ins_go(self):
        outs = [(("fn", 0, 1), ("fn", 1, 2)), (NUM,), (NUM,)]
        ins = [(NUM,), (("row", 0),)]
        for flows in (
            [(0, 1)], [(0, 2)], [(0, 1), (1, 2)], [(0, 2), (1, 1)], [(0, 1), (1, 1), (1, 2)], [(0, 1), (1, 1)],
        ):
            self.stays(outs, ins, flows)

    # Ins 0 and 1 would be one but for the flows, by which outs 1 and 2 are two.
    def test_the_very_ins_count_not_what_they_are(self):
        outs = [(("fn", 0, 1), ("fn", 1, 2)), (NUM,), (NUM,)]
        self.stays(outs, [(NUM,), (NUM,)], [(0, 1), (1, 2)])
        self.short(
            Paper(outs, [(NUM,), (NUM,)], [(0, 1), (0, 2), (1, 1), (1, 2)]),
            [(("fn", 0, 1),), (NUM,)], [(NUM,)], [(0, 1)], [0, 1, 1], [0, 0])

    def test_the_root_may_be_one_with_others(self):
        self.short(Paper([(("row", 1),), (("row", 0),)], [], []), [(("row", 0),)], [], [], [0, 0], [])
        self.short(Paper([(("row", 1),), (("row", 2),), (("row", 2),)], [], []), [(("row", 0),)], [], [], [0, 0, 0], [])


class InsTest(ShortCase):
    def ins(self, one, other, flows=()):
        return Paper([(("fn", 0, 1), ("fn", 1, 1)), ()], [one, other], list(flows))

    def test_two_that_become_one(self):
        for use in (
            NUM, ("row", 0), ("take", ()), ("case", ()), ("take", (("x", 0), ("y", 0))), ("case", (("x", 0),)),
            ("call", 0, 0), ("call", 1, 0),
        ):
            self.short(self.ins((use,), (use,)), [(("fn", 0, 1),), ()], [(use,)], [], [0, 1], [0, 0])
            flows = [(0, 0), (0, 1), (1, 0), (1, 1)]
            self.short(
                self.ins((use,), (use,), flows), [(("fn", 0, 1),), ()], [(use,)], [(0, 0), (0, 1)], [0, 1], [0, 0])
        self.short(self.ins((), ()), [(("fn", 0, 1),), ()], [()], [], [0, 1], [0, 0])
        self.short(
            self.ins((("take", (("x", 0), ("y", 1))),), (("take", (("x", 1), ("y", 0))),)),
            [(("fn", 0, 1),), ()], [(("take", (("x", 0), ("y", 0))),)], [], [0, 1], [0, 0])

    def test_two_that_use_otherwise(self):
        uses = [(), (NUM,), (("row", 0),), (("take", ()),), (("take", (("a", 0),)),), (("take", (("b", 0),)),),
                (("take", (("a", 0), ("b", 0))),), (("case", ()),), (("case", (("a", 0),)),), (("case", (("b", 0),)),),
                (("call", 0, 0),), (("call", 1, 0),), (NUM, ("row", 0)), (("take", ()), ("case", ()))]
        for one in uses:
            for other in uses:
                if one != other:
                    self.stays([(("fn", 0, 1), ("fn", 1, 1)), ()], [one, other])

    def test_two_that_go_into_other_outs(self):
        for flows in (
            [(0, 0)], [(1, 0)], [(0, 0), (1, 1)], [(0, 1), (1, 0)], [(0, 0), (0, 1), (1, 0)], [(1, 0), (1, 1)],
        ):
            self.stays([(("fn", 0, 1), ("fn", 1, 1)), ()], [(NUM,), (NUM,)], flows)

    # Outs 1 and 2 are alike, but in 0 goes into one and in 1 into the other.
    def test_the_very_outs_count_not_what_they_are(self):
        outs = [(("fn", 0, 1), ("fn", 1, 2)), (NUM,), (NUM,)]
        self.stays(outs, [(), ()], [(0, 1), (1, 2)])

    def test_an_in_and_an_out_are_never_one(self):
        self.stays([(("fn", 0, 1),), (NUM,)], [(NUM,)])
        self.stays([(("fn", 0, 1),), (("row", 1),)], [(("row", 0),)])
        self.stays([(("fn", 0, 1),), ()], [()], [(0, 1)])


class PartsTest(ShortCase):
    def chain(self, length, ends):
        outs = [(("rec", (("x", 1), ("y", 2))),)]
        for step in range(length):
            outs += [(("row", 2 * step + 3),), (("row", 2 * step + 4),)]
        return outs + ends

    def test_parted_only_by_parts_of_parts(self):
        for length in range(1, 6):
            self.stays(self.chain(length, [(NUM,), (ANY,)]))
            told = self.told(Paper(self.chain(length, [(NUM,), (NUM,)]), [], []))
            self.assertEqual(len(told[0].outs), length + 2)
            self.assertEqual(told[1], [0] + [k // 2 + 1 for k in range(2 * length + 2)])

    def test_over_both_sides(self):
        # Outs 1 and 2 differ in their arguments, these in what they call with, and that in a field.
        outs = [
            (("rec", (("x", 1), ("y", 2))),), (("fn", 0, 3),), (("fn", 1, 3),), (NUM,), (("rec", (("a", 6),)),),
            (("rec", (("a", 3),)),), (ANY,),
        ]
        ins = [(("call", 4, 2),), (("call", 5, 2),), ()]
        self.stays(outs, ins)
        alike = outs[:6] + [(NUM,)]
        self.short(
            Paper(alike, ins, []),
            [(("rec", (("x", 1), ("y", 1))),), (("fn", 0, 2),), (NUM,), (("rec", (("a", 2),)),)],
            [(("call", 3, 1),), ()], [], [0, 1, 1, 2, 3, 3, 2], [0, 0, 1])

    def test_parted_by_flows_of_parts_alone(self):
        outs = [(("rec", (("x", 1), ("y", 2))),), (("fn", 0, 3),), (("fn", 0, 4),), (NUM,), (NUM,)]
        self.stays(outs, [()], [(0, 3)])
        self.short(
            Paper(outs, [()], [(0, 3), (0, 4)]),
            [(("rec", (("x", 1), ("y", 1))),), (("fn", 0, 2),), (NUM,)], [()], [(0, 2)], [0, 1, 1, 2, 2], [0])

    def test_a_row_of_itself(self):
        outs = [(("rec", (("x", 1), ("y", 2), ("z", 3))),), (("row", 1),), (("row", 2),), (("row", 2),)]
        self.short(
            Paper(outs, [], []), [(("rec", (("x", 1), ("y", 1), ("z", 1))),), (("row", 1),)], [], [], [0, 1, 1, 1], [])

    def test_two_fns_that_name_each_other(self):
        outs = [(("rec", (("x", 1), ("y", 2))),), (("fn", 0, 2),), (("fn", 1, 1),)]
        ins = [(("call", 2, 1),), (("call", 1, 0),)]
        self.short(
            Paper(outs, ins, []), [(("rec", (("x", 1), ("y", 1))),), (("fn", 0, 1),)], [(("call", 1, 0),)], [],
            [0, 1, 1], [0, 0])
        self.stays(outs, [(("call", 2, 1),), (("call", 1, 0), NUM)])
        self.stays(outs, ins, [(0, 1)])

    # Out 1 goes round with two steps, out 3 with three; all are one.
    def test_rounds_of_other_lengths(self):
        outs = [
            (("rec", (("x", 1), ("y", 3))),), (("tag", "t", 2),), (("tag", "t", 1),), (("tag", "t", 4),),
            (("tag", "t", 5),), (("tag", "t", 3),)]
        self.short(
            Paper(outs, [], []), [(("rec", (("x", 1), ("y", 1))),), (("tag", "t", 1),)], [], [], [0, 1, 1, 1, 1, 1], [])
        outs = outs[:5] + [(("tag", "t", 3), NUM)]
        self.short(
            Paper(outs, [], []),
            [(("rec", (("x", 1), ("y", 2))),), (("tag", "t", 1),), (("tag", "t", 3),), (("tag", "t", 4),),
             (("tag", "t", 2), NUM)],
            [], [], [0, 1, 1, 2, 3, 4], [])


class ThingsTest(ShortCase):
    def test_alike_in_another_order(self):
        outs = [(("rec", (("x", 1), ("y", 2))),), (NUM, ("row", 1), ANY), (ANY, NUM, ("row", 2))]
        self.short(
            Paper(outs, [], []), [(("rec", (("x", 1), ("y", 1))),), (NUM, ("row", 1), ANY)], [], [], [0, 1, 1], [])
        ins = [(NUM, ("row", 1), ("take", ())), (("take", ()), ("row", 0), NUM)]
        self.short(
            Paper([(("fn", 0, 0), ("fn", 1, 0))], ins, []),
            [(("fn", 0, 0),)], [(NUM, ("row", 0), ("take", ()))], [], [0], [0, 0])

    # Out 2 is come to first, but out 1 is the least.
    def test_those_of_the_least_member(self):
        outs = [(("rec", (("x", 2), ("y", 1))),), (NUM, ("row", 3)), (("row", 3), NUM), (ANY,)]
        self.short(
            Paper(outs, [], []),
            [(("rec", (("x", 1), ("y", 1))),), (NUM, ("row", 2)), (ANY,)], [], [], [0, 1, 1, 2], [])
        outs = [(("fn", 1, 0), ("fn", 0, 0))]
        self.short(
            Paper(outs, [(NUM, ("row", 0)), (("row", 1), NUM)], []),
            [(("fn", 0, 0),)], [(NUM, ("row", 0))], [], [0], [0, 0])

    # Out 1 is alike to out 2 and less than it, but it is not come to.
    def test_the_least_of_those_that_are_come_to(self):
        outs = [(("row", 2),), (NUM, ANY), (ANY, NUM)]
        self.short(Paper(outs, [], []), [(("row", 1),), (ANY, NUM)], [], [], [0, None, 1], [])

    def test_of_alike_ones_only_the_first(self):
        outs = [(("row", 1), NUM, ("row", 2), ("tag", "t", 2), ("row", 3), ("tag", "t", 1), ANY), (), (), ()]
        self.short(Paper(outs, [], []), [(("row", 1), NUM, ("tag", "t", 1), ANY), ()], [], [], [0, 1, 1, 1], [])
        ins = [(("row", 1), NUM, ("row", 2), ("call", 0, 2), ("call", 0, 1)), (), ()]
        self.short(
            Paper([(("fn", 0, 0),)], ins, []),
            [(("fn", 0, 0),)], [(("row", 1), NUM, ("call", 0, 1)), ()], [], [0], [0, 1, 1])

    # Out 1 has two makings that become alike, out 2 only one.
    def test_sets_are_alike_whatever_comes_twice_in_them(self):
        outs = [(("rec", (("x", 1), ("y", 2))),), (("row", 3), ("row", 4)), (("row", 4),), (NUM,), (NUM,)]
        self.short(
            Paper(outs, [], []), [(("rec", (("x", 1), ("y", 1))),), (("row", 2),), (NUM,)], [], [],
            [0, 1, 1, 2, 2], [])

    def test_one_set_within_the_other(self):
        self.stays([(("rec", (("x", 1), ("y", 2))),), (NUM, ANY), (NUM,)])
        self.stays([(("rec", (("x", 1), ("y", 2))),), (("row", 0),), (("row", 0), ("row", 1))])

    def test_words_count(self):
        self.stays([(("rec", (("x", 1), ("y", 2))),), (("tag", "s", 0),), (("tag", "t", 0),)])
        self.stays([
            (("rec", (("x", 1), ("y", 2))),), (("rec", (("a", 0), ("b", 0))),), (("rec", (("a", 0), ("c", 0))),)])


class FlowsTest(ShortCase):
    # The outs 1 and 3 become one, and the ins 0 and 2.
    def test_from_group_to_group_none_twice(self):
        outs = [(("fn", 0, 1), ("fn", 1, 2), ("fn", 2, 3)), (NUM,), (ANY,), (NUM,)]
        ins = [(NUM,), (), (NUM,)]
        self.short(
            Paper(outs, ins, [(0, 1), (0, 2), (0, 3), (1, 1), (1, 3), (2, 1), (2, 2), (2, 3)]),
            [(("fn", 0, 1), ("fn", 1, 2)), (NUM,), (ANY,)], [(NUM,), ()], [(0, 1), (0, 2), (1, 1)],
            [0, 1, 2, 1], [0, 1, 0])

    def test_sorted_by_the_new_numbers(self):
        outs = [(("fn", 1, 2), ("fn", 0, 1)), (ANY,), (NUM,)]
        self.short(
            Paper(outs, [(NUM,), ()], [(0, 0), (0, 1), (1, 1), (1, 2)]),
            [(("fn", 0, 1), ("fn", 1, 2)), (NUM,), (ANY,)], [(), (NUM,)], [(0, 1), (0, 2), (1, 0), (1, 2)],
            [0, 2, 1], [1, 0])


class WholeTest(ShortCase):
    def test_a_short_paper_stays_the_same(self):
        self.stays(
            [(("rec", (("a", 1), ("b", 2))), NUM), (("fn", 0, 3),), (("row", 4),), (("tag", "t", 2), ANY), (NUM,), ()],
            [(("call", 5, 1), ("case", (("s", 2), ("t", 0)))), (("row", 1),), (("take", (("x", 2),)), NUM)],
            [(0, 3), (1, 1), (2, 4), (2, 5)])

    def test_short_but_numbered_otherwise(self):
        self.short(
            Paper([(("rec", (("x", 2), ("y", 1))),), (NUM,), (("fn", 1, 1),)], [(), (("row", 0),)], [(0, 1)]),
            [(("rec", (("x", 1), ("y", 2))),), (("fn", 0, 2),), (NUM,)], [(("row", 1),), ()], [(1, 2)],
            [0, 2, 1], [1, 0])

    def test_papers_of_programs(self):
        program = read(PROGRAM)
        homes = homes_of(program)
        for which in range(len(program.roots)):
            board = laid(program, homes, which)
            self.worded(paper_of(board, settled(board))[0])

    def test_as_the_words_go(self):
        merged = 0
        for seed in range(300):
            paper = some_paper(seed, 1 + seed % 7, seed % 6, 1 + seed % 3, seed % 4)
            if seed % 2:
                paper.outs[0] = tuple([("row", k) for k in range(1, len(paper.outs))]
                                      + [("fn", k, 0) for k in range(len(paper.ins))])
            wording = self.worded(paper)
            kept = [one for one in wording.out_map + wording.in_map if one is not None]
            merged += len(wording.paper.outs + wording.paper.ins) < len(kept)
        self.assertGreater(merged, 20)

    def test_blown_up_papers_as_the_words_go(self):
        for seed in range(60):
            small = some_paper(seed, 1 + seed % 5, seed % 4, 1 + seed % 3, seed % 4)
            paper = blown_up(small, seed, 2 + seed % 2)
            wording = self.worded(paper)
            self.assertLessEqual(len(wording.paper.outs), len(small.outs))
            self.assertLessEqual(len(wording.paper.ins), len(small.ins))

    def test_some_hundred_outs_and_ins(self):
        for seed in range(3):
            small = some_paper(seed + 7, 12, 10, 4, 12)
            paper = blown_up(small, seed, 30)
            least = short_of(small)
            told = self.told(paper)
            self.assertEqual(len(paper.outs), 360)
            self.assertEqual(len(told[0].outs), len(least[0].outs))
            self.assertEqual(len(told[0].ins), len(least[0].ins))
            self.stays(told[0].outs, told[0].ins, told[0].flows)

    # Of the first kind nothing becomes one, and each out is parted by all that
    # is behind it; of the second all is one.
    def test_beyond_the_bounds(self):
        count = 1300
        outs = [(("fn", k, k + 1),) for k in range(count)] + [()]
        ins = [(("call", k, k),) for k in range(count)]
        self.stays(outs, ins)
        outs = [(("fn", k, (k + 1) % count),) for k in range(count)]
        self.short(
            Paper(outs, ins, []), [(("fn", 0, 0),)], [(("call", 0, 0),)], [], [0] * count, [0] * count)


class OwnTest(ShortCase):
    PAPER = ([(("fn", 0, 1), ("fn", 1, 1)), (NUM,), ()], [(), ()], [(0, 1), (1, 1)])

    def test_what_is_told_is_the_askers_own(self):
        for made in (self.PAPER, ([()], [], []), ([(("row", 1),), (NUM,)], [], [])):
            paper = Paper(*copy.deepcopy(made))
            told = short_of(paper)
            lists = [told[0].outs, told[0].ins, told[0].flows, told[1], told[2], paper.outs, paper.ins, paper.flows]
            self.assertEqual(len({id(one) for one in lists}), 8)
            before = copy.deepcopy((vars(told[0]), told[1], told[2]))
            for one in lists[:5]:
                one.append(7)
            self.assertEqual((paper.outs, paper.ins, paper.flows), made)
            again = short_of(paper)
            self.assertEqual((vars(again[0]), again[1], again[2]), before)

    def test_the_interface(self):
        self.assertEqual(str(inspect.signature(shortening.short_of)), "(paper)")


if __name__ == "__main__":
    unittest.main()
