"""[26]: what is come to, and the numbers that come of it."""

import copy
import unittest

from flowkinds.coming import come_to, orderly
from flowkinds.papers import Paper

# Numbered so that no side's numbers come in order. From out 3:
#   out 3 comes to out 1 (x), out 4 (y) and then, by its second making, to in 2 and out 0;
#   out 1 to in 0; out 4 and in 2 to in 1; out 0 to nothing new; in 0 to out 5 and in 3.
# Out 2, out 6 and in 4 are not come to, though they name some that are.
OUTS = [
    (("row", 3), ("any",)),
    (("fn", 0, 1),),
    (("tag", "t", 0),),
    (("rec", (("x", 1), ("y", 4))), ("fn", 2, 0)),
    (("num",), ("fn", 2, 4)),
    (("tag", "s", 5), ("rec", ())),
    (("fn", 4, 6),),
]
INS = [
    (("call", 5, 3), ("take", ())),
    (("num",), ("case", (("s", 1), ("t", 2)))),
    (("row", 1),),
    (("take", (("x", 0), ("y", 1))), ("case", ())),
    (("call", 6, 4),),
]


class ComeToTest(unittest.TestCase):
    def come_to(self, outs, ins, start, wanted):
        with self.subTest(outs=outs, ins=ins):
            before = copy.deepcopy((outs, ins))
            self.assertEqual(come_to(outs, ins, start), wanted)
            self.assertEqual((outs, ins), before)

    def test_the_start_alone(self):
        self.come_to([()], [], 0, ([0], []))
        self.come_to([(), ()], [()], 1, ([1], []))
        self.come_to([(("num",), ("any",), ("rec", ()))], [(("num",),)], 0, ([0], []))

    def test_each_making(self):
        for making, wanted in (
            (("num",), ([0], [])), (("any",), ([0], [])), (("fn", 1, 2), ([0, 2], [1])), (("rec", ()), ([0], [])),
            (("rec", (("x", 2), ("y", 1))), ([0, 2, 1], [])), (("tag", "t", 2), ([0, 2], [])),
            (("row", 1), ([0, 1], [])), (("fn", 1, 0), ([0], [1])),
        ):
            self.come_to([(making,), (), ()], [(), ()], 0, wanted)

    def test_each_use(self):
        for use, wanted in (
            (("num",), ([0], [0])), (("call", 1, 2), ([0, 1], [0, 2])), (("take", ()), ([0], [0])),
            (("take", (("x", 2), ("y", 1))), ([0], [0, 2, 1])), (("case", ()), ([0], [0])),
            (("case", (("s", 1), ("t", 2))), ([0], [0, 1, 2])), (("row", 1), ([0], [0, 1])),
            (("call", 0, 0), ([0], [0])),
        ):
            self.come_to([(("fn", 0, 0),), ()], [(use,), (), ()], 0, wanted)

    def test_several_things_in_order(self):
        self.come_to([(("row", 2), ("tag", "t", 1), ("row", 2)), (), ()], [], 0, ([0, 2, 1], []))

    def test_one_queue_for_both_sides(self):
        self.come_to(OUTS, INS, 3, ([3, 1, 4, 0, 5], [2, 0, 1, 3]))

    def test_in_breadth_not_in_depth(self):
        outs = [(("rec", (("x", 1), ("y", 2))),), (("row", 3),), (("row", 4),), (), ()]
        self.come_to(outs, [], 0, ([0, 1, 2, 3, 4], []))

    def test_round_and_round(self):
        self.come_to([(("row", 1),), (("row", 0),)], [], 1, ([1, 0], []))
        self.come_to([(("fn", 0, 0),)], [(("call", 0, 0),)], 0, ([0], [0]))

    def test_a_long_way(self):
        outs = [(("row", number + 1),) for number in range(4999)] + [()]
        self.come_to(outs, [], 0, (list(range(5000)), []))


class OrderlyTest(unittest.TestCase):
    maxDiff = None

    def orderly(self, outs, ins, flows, start, wanted):
        before = copy.deepcopy((outs, ins, flows))
        paper, out_ones, in_ones = orderly(outs, ins, flows, start)
        self.assertIs(type(paper), Paper)
        self.assertEqual((paper.outs, paper.ins, paper.flows, out_ones, in_ones), wanted)
        self.assertEqual((outs, ins, flows), before)

    def test_new_numbers(self):
        self.orderly(OUTS, INS, [], 3, (
            [
                (("rec", (("x", 1), ("y", 2))), ("fn", 0, 3)),
                (("fn", 1, 1),),
                (("num",), ("fn", 0, 2)),
                (("row", 0), ("any",)),
                (("tag", "s", 4), ("rec", ())),
            ],
            [
                (("row", 2),),
                (("call", 4, 3), ("take", ())),
                (("num",), ("case", (("s", 2), ("t", 0)))),
                (("take", (("x", 1), ("y", 2))), ("case", ())),
            ],
            [], [3, 1, 4, 0, 5], [2, 0, 1, 3]))

    def test_flows_sorted_none_twice_and_only_of_what_is_come_to(self):
        paper = orderly(OUTS, INS, [(0, 3), (2, 5), (4, 3), (2, 3), (0, 2), (4, 6), (3, 1), (0, 3), (2, 1)], 3)[0]
        self.assertEqual(paper.flows, [(0, 0), (0, 1), (0, 4), (1, 0), (3, 1)])

    def test_of_alike_ones_only_the_first(self):
        outs = [(("num",), ("row", 1), ("num",), ("any",), ("row", 1), ("fn", 0, 1)), ()]
        ins = [(("row", 0), ("num",), ("row", 0))]
        self.orderly(outs, ins, [], 0, (
            [(("num",), ("row", 1), ("any",), ("fn", 0, 1)), ()], [(("row", 0), ("num",))], [], [0, 1], [0]))

    def test_what_is_orderly_stays(self):
        first = orderly(OUTS, INS, [(0, 3), (2, 5), (1, 4)], 3)[0]
        second = orderly(first.outs, first.ins, first.flows, 0)
        self.assertEqual(vars(second[0]), vars(first))
        self.assertEqual(second[1:], ([0, 1, 2, 3, 4], [0, 1, 2, 3]))
        for one, other in ((first.outs, second[0].outs), (first.ins, second[0].ins), (first.flows, second[0].flows)):
            self.assertIsNot(one, other)


if __name__ == "__main__":
    unittest.main()
