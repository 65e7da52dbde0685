import inspect
import unittest
from itertools import product

from runnets import kinds
from runnets.errors import InvalidKind, InvalidNet, InvalidWire, TooLong
from runnets.kinds import are_alike, form_of, is_kind, unlike_end
from tests.samples import (ALIKE, BACK, BARE, CHAIN, CROSSED, DOUBLING, FOUR, KINDS, OTHERS, PAIR, SHOWN, THREE, TWICE,
                           WIDE, WRONG_KINDS, WRONG_NETS, Odd, caught, doubled, drawn_nets, form, ladder_nets,
                           small_nets, total, wires, word)

BIG = 2 ** 60


# For each kind joins of it and the worths that part all unlike forms of words of few places.
JOINS = {
    "any": (("a", "b", "c"), lambda x, y: x + y),
    "even": ((0, 1), lambda x, y: x + y),
    "first": ((0, 1, 2), lambda x, y: x or y),
    "last": ((0, 1, 2), lambda x, y: y or x),
    "sets": ((0, 1), max),
    "ends": ((0, 1, 2, 3), lambda x, y: x // 2 * 2 + y % 2),
}
for size in range(2, 9):
    JOINS[size] = (tuple(range(size)), lambda x, y, size=size: (x + y) % size)


class ShownExamples(unittest.TestCase):
    def test_kinds(self):
        self.assertEqual([is_kind("any"), is_kind(8), is_kind(9), is_kind(True), is_kind("all")],
                         [True, True, False, False, False])

    def test_forms(self):
        shown = [form_of(TWICE, 3, "any"), form_of(TWICE, 3, "even"), form_of(TWICE, 3, 2), form_of(BACK, 2, "first"),
                 form_of(BACK, 2, "last"), form_of(BACK, 2, "sets"), form_of(BACK, 2, "ends")]
        self.assertEqual(shown, [(0, 1, 1), (1, 2), (1, 0), (1, 0), (1, 0), (0, 1), (1, 0)])

    def test_alike(self):
        shown = [are_alike(TWICE, PAIR, "first"), are_alike(TWICE, PAIR, "even"), are_alike(BACK, PAIR, "even"),
                 are_alike(BACK, PAIR, "ends"), unlike_end(TWICE, PAIR, "any"), unlike_end(BACK, PAIR, "sets")]
        self.assertEqual(shown, [True, False, True, False, 1, None])


class IsKind(unittest.TestCase):
    def test_the_thirteen(self):
        self.assertEqual(len(KINDS), 13)
        for kind in KINDS:
            self.assertIs(is_kind(kind), True, kind)

    def test_all_others(self):
        for value in (*WRONG_KINDS, *OTHERS):
            self.assertIs(is_kind(value), False, value)

    def test_by_name(self):
        self.assertIs(is_kind(value="ends"), True)
        self.assertIs(is_kind(value=1), False)


class Shapes(unittest.TestCase):
    def test_names_of_arguments(self):
        for call, names in [(is_kind, ["value"]), (form_of, ["net", "wire", "kind"]), (are_alike, ["net", "other", "kind"]),
                            (unlike_end, ["net", "other", "kind"])]:
            self.assertEqual(list(inspect.signature(call).parameters), names)
            self.assertEqual(call.__module__, kinds.__name__)

    def test_by_name(self):
        self.assertEqual(form_of(kind="even", wire=3, net=TWICE), (1, 2))
        self.assertIs(are_alike(kind="first", other=PAIR, net=TWICE), True)
        self.assertEqual(unlike_end(other=PAIR, kind=2, net=TWICE), 1)


class Forms(unittest.TestCase):
    def check(self, net, wire, kind):
        told, due = form_of(net, wire, kind), form(word(net, wire), net[0], kind)
        self.assertEqual(told, due, (net, wire, kind))
        self.assertIs(type(told), tuple)
        self.assertTrue(all([type(number) is int for number in told]), told)

    def test_short_words(self):
        for net in (*SHOWN, *small_nets(), *drawn_nets(), *ladder_nets()):
            for wire in wires(net):
                for kind in KINDS:
                    if kind != "any" or len(word(net, wire)) <= 400:
                        self.check(net, wire, kind)

    def test_places_that_come_again(self):
        # The word 1 0 1 2 1 0 0 of the last wire.
        net = (4, ((1, 0), (4, 1), (5, 2), (6, 1), (7, 0), (8, 0)), (9,))
        self.assertEqual([form_of(net, 9, kind) for kind in ("any", "even", 2, 3, "first", "last", "sets", "ends")],
                         [(1, 0, 1, 2, 1, 0, 0), (3, 3, 1, 0), (1, 1, 1, 0), (0, 0, 1, 0), (1, 0, 2), (2, 1, 0), (0, 1, 2),
                          (1, 0)])

    def test_forms_of_places(self):
        self.assertEqual([form_of(WIDE, 11, kind) for kind in ("any", "first", "last", "sets", "ends")],
                         [(11,), (11,), (11,), (11,), (11, 11)])
        for kind in ("even", 2, 8):
            self.assertEqual(form_of(WIDE, 11, kind), (0,) * 11 + (1,))

    def test_rests(self):
        for many in range(1, 20):
            net = doubled(many, 3)
            for kind in range(2, 9):
                self.assertEqual(form_of(net, net[2][0], kind), (many % kind, 0, 0))

    def test_long_words(self):
        self.assertEqual(form_of(DOUBLING, 60, "even"), (BIG,))
        for kind in range(2, 9):
            self.assertEqual(form_of(DOUBLING, 60, kind), (BIG % kind,))
        for kind in ("first", "last", "sets"):
            self.assertEqual(form_of(DOUBLING, 60, kind), (0,))
        self.assertEqual(form_of(DOUBLING, 60, "ends"), (0, 0))

    def test_long_words_of_several_places(self):
        none = (0,) * 10
        self.assertEqual(form_of(CROSSED, 71, "even"), (2 ** 59, 2 ** 59) + none)
        for kind in range(2, 9):
            self.assertEqual(form_of(CROSSED, 71, kind), (2 ** 59 % kind, 2 ** 59 % kind) + none)
        self.assertEqual([form_of(CROSSED, 71, kind) for kind in ("first", "last", "sets", "ends")],
                         [(1, 0), (1, 0), (0, 1), (1, 0)])

    def test_any_up_to_400_places(self):
        for many in (255, 256, 399, 400):
            net = doubled(many)
            self.assertEqual(form_of(net, net[2][0], "any"), (0,) * many)
        self.assertEqual(form_of(CROSSED, 12, "any"), (1, 0))

    def test_any_with_more(self):
        for many in (401, 512, 800, BIG):
            net = doubled(many)
            error = caught(form_of, net, net[2][0], "any")
            self.assertIs(type(error), TooLong)
            self.assertEqual(error.given, many)
            self.assertIs(type(error.given), int)
            for kind in KINDS[1:]:
                form_of(net, net[2][0], kind)


class FormsAndWorths(unittest.TestCase):
    def check(self, kind, held, other, places):
        worths, join = JOINS[kind]
        alike = all([total(held, row, join) == total(other, row, join) for row in product(worths, repeat=places)])
        self.assertEqual(alike, form(held, places, kind) == form(other, places, kind), (kind, held, other))
        return alike

    def test_like_forms_are_like_worths(self):
        nets = [(2, ((0, 1), (2, 1), (1, 2), (2, 2), (3, 0), (1, 0), (7, 3), (4, 4)), (wire,)) for wire in range(10)]
        for kind in KINDS:
            for net, other in product(nets, repeat=2):
                alike = self.check(kind, word(net, net[2][0]), word(other, other[2][0]), 2)
                self.assertIs(are_alike(net, other, kind), alike, (net, other, kind))

    def test_three_places(self):
        words = [held for many in (1, 2, 3) for held in product(range(3), repeat=many)]
        nets = []
        for held in words:
            boxes, last = [], held[0]
            for place in held[1:]:
                boxes.append((last, place))
                last = 2 + len(boxes)
            nets.append((3, tuple(boxes), (last,)))
        for kind in ("any", "even", 2, 3, "first", "last", "sets", "ends"):
            for net, other in product(nets[::2], nets[1::3]):
                alike = self.check(kind, word(net, net[2][0]), word(other, other[2][0]), 3)
                self.assertIs(are_alike(net, other, kind), alike, (net, other, kind))


class Alike(unittest.TestCase):
    def check(self, net, other, kind):
        ends = zip(net[2], other[2])
        due = [at for at, (one, two) in enumerate(ends)
               if form(word(net, one), net[0], kind) != form(word(other, two), net[0], kind)]
        told = unlike_end(net, other, kind)
        self.assertEqual(told, due[0] if due else None, (net, other, kind))
        self.assertIsNot(type(told), bool)
        self.assertIs(are_alike(net, other, kind), not due)

    def test_small_nets(self):
        nets = [net for net in small_nets() if net[0] == 2 and len(net[1]) == 2]
        for kind in KINDS:
            for net, other in product(nets, repeat=2):
                self.check(net, other, kind)

    def test_drawn_nets(self):
        nets = drawn_nets(400, 4)
        for net in nets:
            for other in nets:
                if (net[0], len(net[2])) == (other[0], len(other[2])):
                    for kind in KINDS:
                        self.check(net, other, kind)

    def test_each_kind_with_like_and_unlike_words(self):
        # Ends of one place and the words 0 1, 1 0, 0 1 1, 0 1 0, 0 0 1, 1 0 0 1.
        boxes = ((0, 1), (1, 0), (2, 1), (2, 0), (0, 2), (3, 2))
        of = {"01": 2, "10": 3, "011": 4, "010": 5, "001": 6, "1001": 7}
        like = {"even": [("01", "10"), ("010", "001")], 2: [("01", "10"), ("010", "001")], "any": [("01", "01")],
                "first": [("01", "011"), ("01", "010"), ("01", "001"), ("10", "1001")],
                "last": [("01", "011"), ("10", "010"), ("01", "001"), ("01", "1001")],
                "sets": [("01", "10"), ("01", "1001"), ("011", "010")], "ends": [("01", "011"), ("01", "001")]}
        unlike = {"even": [("01", "011"), ("011", "001")], 2: [("01", "011"), ("1001", "01")],
                  "any": [("01", "10"), ("01", "011")], "first": [("01", "10"), ("01", "1001")],
                  "last": [("01", "10"), ("01", "010")], "sets": [], "ends": [("01", "010"), ("10", "1001")]}
        for told, due in ((like, True), (unlike, False)):
            for kind, pairs in told.items():
                for one, two in pairs:
                    for ahead, behind in ((one, two), (two, one)):
                        net, other = (2, boxes, (0, of[ahead])), (2, boxes, (0, of[behind]))
                        self.assertIs(are_alike(net, other, kind), due, (ahead, behind, kind))
                        self.assertEqual(unlike_end(net, other, kind), None if due else 1)

    def test_sets_unlike(self):
        self.assertEqual(unlike_end(PAIR, (2, (), (0, 1)), "sets"), 1)
        self.assertEqual(unlike_end((2, (), (0, 1)), PAIR, "sets"), 1)

    def test_the_least_end_is_told(self):
        net, other = (3, (), (0, 1, 2, 0)), (3, (), (0, 2, 1, 0))
        for kind in KINDS:
            self.assertEqual([unlike_end(net, other, kind), unlike_end(other, net, kind)], [1, 1])
            self.assertEqual([unlike_end(net, net, kind), are_alike(net, net, kind)], [None, True])

    def test_other_numbers_of_boxes_do_not_matter(self):
        for kind in KINDS:
            self.assertIs(are_alike(THREE, (3, ((1, 2), (0, 1), (0, 3)), (0, 4, 5)), kind), True)

    def test_long_words(self):
        half = (1, DOUBLING[1], (59,))
        for kind in KINDS[1:]:
            self.assertIs(are_alike(DOUBLING, DOUBLING, kind), True, kind)
        self.assertEqual([kind for kind in KINDS[1:] if are_alike(DOUBLING, half, kind)],
                         [2, 4, 8, "first", "last", "sets", "ends"])
        self.assertEqual([unlike_end(half, DOUBLING, "even"), unlike_end(half, DOUBLING, "sets")], [0, None])
        turned = (12, ((0, 1), *CROSSED[1][1:]), CROSSED[2])
        self.assertEqual([kind for kind in KINDS[1:] if are_alike(CROSSED, turned, kind)],
                         ["even", 2, 3, 4, 5, 6, 7, 8, "sets"])
        self.assertEqual(unlike_end(CROSSED, turned, "last"), 1)


class TooLongEnds(unittest.TestCase):
    def check(self, net, other, long):
        for call in (are_alike, unlike_end):
            error = caught(call, net, other, "any")
            self.assertIs(type(error), TooLong, (net, other))
            self.assertEqual(error.given, long)
            for kind in KINDS[1:]:
                call(net, other, kind)

    def setUp(self):
        # Wire 8 has 256 places, 9 has 512, 10 has 1024; 11 has 384, 12 has 400, 13 has 401.
        self.boxes = tuple([(k, k) for k in range(10)]) + ((8, 7), (11, 4), (12, 0))

    def net(self, *ends):
        return (1, self.boxes, ends)

    def test_400_places_and_more(self):
        self.assertIs(are_alike(self.net(12), self.net(12), "any"), True)
        self.assertIs(are_alike(self.net(12), self.net(11), "any"), False)
        self.assertEqual(unlike_end(self.net(0, 12, 11), self.net(0, 12, 12), "any"), 2)
        self.check(self.net(13), self.net(12), 401)
        self.check(self.net(12), self.net(13), 401)
        self.check(self.net(13), self.net(13), 401)
        self.check(DOUBLING, DOUBLING, BIG)

    def test_long_needless_boxes_do_not_matter(self):
        self.assertIs(are_alike(self.net(8), (1, (*self.boxes[:8], *[(8 + k, 8 + k) for k in range(52)]), (8,)), "any"), True)
        self.assertEqual(unlike_end(self.net(0, 8), self.net(0, 7), "any"), 1)
        mixed = (1, (*self.boxes, (10, 0), (0, 10), (14, 15), (0, 1)), (17,))
        self.assertEqual(form_of(mixed, 17, "any"), (0, 0, 0))
        self.assertIs(are_alike(mixed, (1, ((0, 0), (1, 0)), (2,)), "any"), True)

    def test_the_first_end_and_the_net_ahead(self):
        self.check(self.net(9), self.net(10), 512)
        self.check(self.net(10), self.net(9), 1024)
        self.check(self.net(0, 9, 10), self.net(0, 10, 9), 512)
        self.check(self.net(0, 0, 9), self.net(0, 10, 0), 1024)
        self.check(self.net(0, 9, 0), self.net(0, 0, 10), 512)

    def test_behind_an_unlike_end(self):
        self.check(self.net(1, 0, 9), self.net(0, 0, 9), 512)
        self.check(self.net(1, 0), self.net(0, 10), 1024)
        self.check(self.net(*[k % 3 for k in range(23)], 13), self.net(*[0] * 24), 401)


class Errors(unittest.TestCase):
    def fails(self, raised, due, call, *arguments, **named):
        error = caught(call, *arguments, **named)
        self.assertIs(type(error), raised, (call, arguments, named))
        self.assertIs(error.given, due)

    def test_nets(self):
        for net in WRONG_NETS:
            self.fails(InvalidNet, net, form_of, net, 0, "any")
            self.fails(InvalidNet, net, form_of, net, None, None)
            for call in (are_alike, unlike_end):
                self.fails(InvalidNet, net, call, net, PAIR, "any")
                self.fails(InvalidNet, net, call, net, None, None)
                self.fails(InvalidNet, net, call, PAIR, net, "any")
                self.fails(InvalidNet, net, call, PAIR, net, "all")
                self.fails(InvalidNet, net, call, kind=None, other=net, net=PAIR)
                self.fails(InvalidNet, net, call, DOUBLING, net, "any")

    def test_other_places_or_ends(self):
        for net, other in [(PAIR, THREE), (THREE, PAIR), (PAIR, (2, ((0, 1),), (0, 2, 2))), (PAIR, (2, ((0, 1),), (0,))),
                           (PAIR, (3, ((0, 1),), (0, 2))), (FOUR, ALIKE), (BARE, WIDE), (DOUBLING, CHAIN),
                           (PAIR, (1, (), (0, 0))), (PAIR, (12, (), (0, 1))), (BARE, (1, (), (0,) * 24))]:
            for call in (are_alike, unlike_end):
                self.fails(InvalidNet, other, call, net, other, "sets")
                self.fails(InvalidNet, other, call, net, other, "any")
                self.fails(InvalidNet, other, call, net, other, None)
                self.fails(InvalidNet, other, call, kind=Odd(), net=net, other=other)

    def test_wires(self):
        for wire in [*OTHERS, 3, 4, -1, -3, 10 ** 399, (), (0,), "0"]:
            self.fails(InvalidWire, wire, form_of, PAIR, wire, "any")
            self.fails(InvalidWire, wire, form_of, PAIR, wire, "all")
            self.fails(InvalidWire, wire, form_of, kind=None, wire=wire, net=PAIR)
        for wire in (61, -1, None):
            self.fails(InvalidWire, wire, form_of, DOUBLING, wire, "any")

    def test_kinds(self):
        for kind in WRONG_KINDS:
            self.fails(InvalidKind, kind, form_of, PAIR, 2, kind)
            self.fails(InvalidKind, kind, form_of, DOUBLING, 60, kind)
            self.fails(InvalidKind, kind, form_of, kind=kind, wire=0, net=PAIR)
            for call in (are_alike, unlike_end):
                self.fails(InvalidKind, kind, call, PAIR, BACK, kind)
                self.fails(InvalidKind, kind, call, DOUBLING, DOUBLING, kind)
                self.fails(InvalidKind, kind, call, net=PAIR, other=PAIR, kind=kind)


if __name__ == "__main__":
    unittest.main()
