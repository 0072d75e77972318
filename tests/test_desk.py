"""Points 96 to 102: the desk, its edits, its journal, its kept order and its mark."""

import random
import unittest

from helpers import Cases

from comesapart.desk import Batch, Desk, NothingToRedo, NothingToUndo
from comesapart.editions import BadLabel, NameTaken, NoSuchName, StillTied
from comesapart.errors import BadLine, BadSides, ComesapartError, TooLarge, UnknownSide
from comesapart.groups import grouped
from comesapart.openings import fault_in_order, knot, opening_order
from comesapart.search import cycle_by_dropping
from comesapart.webs import Web


def state_of(desk):
    """Return all that can be asked of a desk."""
    return (desk.web.sides, desk.web.ties, desk.place_names, desk.tie_names, desk.order, desk.renewed, desk.journal)


def state_with_history(desk):
    """Return what can be asked of a desk when everything is taken back, and when everything is made again."""
    states = [state_of(desk)]
    forth = []
    while True:
        try:
            desk.redo()
        except NothingToRedo:
            break
        forth.append(state_of(desk))
    for _ in forth:
        desk.undo()
    back = []
    while True:
        try:
            desk.undo()
        except NothingToUndo:
            break
        back.append(state_of(desk))
    for _ in back:
        desk.redo()
    return states + back + ["and forth"] + forth


def ladder(doubled=False):
    """Return a desk with the places a, b, c and the ties t and u between them, or two ties t, u between a and b."""
    desk = Desk()
    for name in "abc":
        desk.add_place(name)
    desk.add_tie("t", "a", 0, "b", 0)
    if doubled:
        desk.add_tie("u", "b", 1, "a", 1)
    else:
        desk.add_tie("u", "b", 1, "c", 0)
    return desk


class Model:
    """A desk in the words of the document: lists of places and ties, and the states before each edit."""

    def __init__(self):
        self.places, self.ties, self.order, self.renewed, self.lines = [], [], (), False, []

    def copy(self):
        other = Model()
        other.places, other.ties, other.lines = list(self.places), list(self.ties), list(self.lines)
        other.order, other.renewed = self.order, self.renewed
        return other

    def names(self):
        return [name for name, _ in self.places]

    def web(self):
        number = self.names().index
        return Web([sides for _, sides in self.places],
                   [(number(one), side, number(other), far_side) for _, one, side, other, far_side in self.ties])

    def joints(self):
        return [self.names()[joint] for joint in self.web().joints]

    def make_anew(self):
        web = self.web()
        self.order = None if knot(web) else tuple(self.names()[place] for place in opening_order(web))
        self.renewed = True

    def add_place(self, name, sides):
        self.places.append((name, sides))
        self.renewed = False
        self.lines.append(f"place {name} {sides}")

    def remove_place(self, name):
        self.places = [place for place in self.places if place[0] != name]
        self.renewed = False
        self.lines.append(f"remove {name}")

    def cut_tie(self, name):
        self.ties = [tie for tie in self.ties if tie[0] != name]
        self.renewed = False
        self.lines.append(f"cut {name}")
        if self.order is None:
            self.make_anew()
        else:
            self.order = tuple(place for place in self.order if place in self.joints())

    def add_tie(self, name, one, side, other, far_side):
        before = self.joints()
        groups = grouped(self.names(), [(tie[1], tie[3]) for tie in self.ties])
        self.ties.append((name, one, side, other, far_side))
        self.renewed = False
        self.lines.append(f"tie {name} {one}:{side} {other}:{far_side}")
        if self.order is not None:
            if any(one in group and other in group for group in groups):
                self.make_anew()
            else:
                self.order = tuple(joint for joint in self.joints() if joint not in before) + self.order

    def state(self):
        web = self.web()
        return (web.sides, web.ties, tuple(self.names()), tuple(tie[0] for tie in self.ties), self.order, self.renewed,
                "\n".join(self.lines))


class EditTests(unittest.TestCase, Cases):
    def check_refused(self, desk, error, fields, method, *args):
        before = state_with_history(desk)
        self.assert_raises(error, fields, getattr(desk, method), *args)
        self.assertEqual(before, state_with_history(desk))

    def test_a_desk_without_places(self):
        desk = Desk()
        self.assertEqual(((), (), (), (), (), False, ""), state_of(desk))
        self.assertEqual(Web.empty(), desk.web)
        self.assertEqual(("apart", []), desk.verdict())

    def test_edits(self):
        desk = Desk()
        self.assertIsNone(desk.add_place("a"))
        self.assertIsNone(desk.add_place("b2", 4))
        self.assertIsNone(desk.add_place("t", sides=1))
        self.assertIsNone(desk.add_tie("t", "a", 0, "b2", 3))
        self.assertIsNone(desk.add_tie("u", "b2", 1, "a", 1))
        self.assertEqual(((2, 4, 1), ((0, 0, 1, 3), (1, 1, 0, 1)), ("a", "b2", "t"), ("t", "u")), state_of(desk)[:4])
        self.assertIsNone(desk.cut_tie("t"))
        self.assertIsNone(desk.remove_place("t"))
        self.assertEqual(((2, 4), ((1, 1, 0, 1),), ("a", "b2"), ("u",)), state_of(desk)[:4])
        self.assertEqual("place a 2\nplace b2 4\nplace t 1\ntie t a:0 b2:3\ntie u b2:1 a:1\ncut t\nremove t",
                         desk.journal)

    def test_numbers_fall_behind_what_is_taken_away(self):
        desk = Desk()
        for name in ("w", "x", "y", "z"):
            desk.add_place(name, 3)
        for name, one, other in (("k", "y", "z"), ("l", "x", "x"), ("m", "z", "x")):
            desk.add_tie(name, one, 1, other, 2)
        desk.remove_place("w")
        self.assertEqual(((1, 1, 2, 2), (0, 1, 0, 2), (2, 1, 0, 2)), desk.web.ties)
        desk.cut_tie("l")
        self.assertEqual((((1, 1, 2, 2), (2, 1, 0, 2)), ("k", "m")), (desk.web.ties, desk.tie_names))

    def test_tuples(self):
        desk = ladder()
        for value in (desk.place_names, desk.tie_names, desk.order):
            self.assertIs(tuple, value.__class__)

    def test_names_without_a_valid_form(self):
        desk = ladder()
        for name in ("", "A", "aB", "a b", " ", "a_b", "a-b", "a:b", "a\n", "abcdefghijklm", "\u00e4", "\u0663", "a'",
                     "%",
                     "1234567890123"):
            self.check_refused(desk, BadLabel, {"name": name}, "add_place", name, 9)
            self.check_refused(desk, BadLabel, {"name": name}, "add_tie", name, "x", 9, "y", 9)
        for name in ("abcdefghijkl", "0", "9z", "123456789012", "z0"):
            desk.add_place(name)
            desk.add_tie(name, name, 0, "a", 1)
        self.assertEqual(("abcdefghijkl", "0", "9z", "123456789012", "z0"), desk.place_names[3:])

    def test_errors_of_add_place(self):
        desk = ladder()
        self.check_refused(desk, NameTaken, {"name": "b"}, "add_place", "b")
        self.check_refused(desk, NameTaken, {"name": "b"}, "add_place", "b", 0)
        for sides in (0, 5, -1, 10 ** 20):
            self.check_refused(desk, BadSides, {"place": 3}, "add_place", "d", sides)
        desk.add_place("t")
        self.check_refused(desk, NameTaken, {"name": "t"}, "add_place", "t", 2)
        for number in range(196):
            desk.add_place(f"n{number}", 1)
        self.assertEqual(200, len(desk.web.sides))
        for sides in (2, 9):
            self.check_refused(desk, TooLarge, {"limit": 200}, "add_place", "d", sides)
        self.check_refused(desk, NameTaken, {"name": "n5"}, "add_place", "n5")

    def test_errors_of_add_tie(self):
        desk = ladder()
        for args, error, fields in ((("t", "x", 9, "y", 9), NameTaken, {"name": "t"}),
                                    (("v", "x", 9, "y", 9), NoSuchName, {"name": "x"}),
                                    (("v", "a", 9, "y", 9), NoSuchName, {"name": "y"}),
                                    (("v", "", 0, "a", 0), NoSuchName, {"name": ""}),
                                    (("v", "a", 0, "t", 0), NoSuchName, {"name": "t"}),
                                    (("v", "b", 2, "c", 2), UnknownSide, {"place": 1, "side": 2}),
                                    (("v", "b", 1, "c", 2), UnknownSide, {"place": 2, "side": 2}),
                                    (("v", "b", -1, "c", 0), UnknownSide, {"place": 1, "side": -1}),
                                    (("v", "b", 0, "c", 10 ** 20), UnknownSide, {"place": 2, "side": 10 ** 20})):
            self.check_refused(desk, error, fields, "add_tie", *args)
        desk.add_tie("a", "a", 0, "a", 0)
        for number in range(297):
            desk.add_tie(f"n{number}", "c", 1, "c", 1)
        self.assertEqual(300, len(desk.web.ties))
        for args, error, fields in ((("v", "a", 0, "b", 0), TooLarge, {"limit": 300}),
                                    (("v", "a", 9, "b", 0), TooLarge, {"limit": 300}),
                                    (("v", "a", 9, "x", 0), NoSuchName, {"name": "x"})):
            self.assert_raises(error, fields, desk.add_tie, *args)

    def test_errors_of_taking_away(self):
        desk = ladder()
        for name in ("a", "v", "", "T"):
            self.check_refused(desk, NoSuchName, {"name": name}, "cut_tie", name)
        for name in ("t", "d", "", "A"):
            self.check_refused(desk, NoSuchName, {"name": name}, "remove_place", name)
        for name in "abc":
            self.check_refused(desk, StillTied, {"name": name}, "remove_place", name)
        desk.add_place("d", 1)
        desk.add_tie("v", "d", 0, "d", 0)
        self.check_refused(desk, StillTied, {"name": "d"}, "remove_place", "d")
        desk.cut_tie("v")
        desk.remove_place("d")

    def test_names_are_free_again(self):
        desk = ladder()
        desk.cut_tie("u")
        desk.remove_place("c")
        desk.add_place("c", 1)
        desk.add_tie("u", "a", 0, "c", 0)
        self.assertEqual((("a", "b", "c"), ("t", "u")), (desk.place_names, desk.tie_names))


class UndoTests(unittest.TestCase, Cases):
    def test_to_both_ends(self):
        desk = Desk()
        states = [state_of(desk)]
        for line in ladder(True).journal.split("\n") + ["cut t", "remove c"]:
            desk.obey(line)
            states.append(state_of(desk))
        for state in states[-2::-1]:
            self.assertIsNone(desk.undo())
            self.assertEqual(state, state_of(desk))
        self.assert_raises(NothingToUndo, {}, desk.undo)
        self.assertEqual(states[0], state_of(desk))
        for state in states[1:]:
            self.assertIsNone(desk.redo())
            self.assertEqual(state, state_of(desk))
        self.assert_raises(NothingToRedo, {}, desk.redo)
        self.assertEqual(states[-1], state_of(desk))

    def test_a_new_edit_forgets_what_could_be_redone(self):
        desk = ladder()
        desk.undo()
        desk.undo()
        desk.add_place("d")
        self.assert_raises(NothingToRedo, {}, desk.redo)
        self.assertEqual("place a 2\nplace b 2\nplace c 2\nplace d 2", desk.journal)
        desk.undo()
        desk.redo()
        self.assertEqual(("a", "b", "c", "d"), desk.place_names)

    def test_an_edit_that_is_refused_forgets_nothing(self):
        desk = ladder()
        desk.undo()
        self.assert_raises(NameTaken, {"name": "a"}, desk.add_place, "a")
        self.assert_raises(BadLine, {"line": 1}, desk.obey, "undo")
        desk.redo()
        self.assertEqual(state_of(ladder()), state_of(desk))

    def test_the_mark_is_that_of_the_last_edit_that_stands(self):
        desk = ladder(True)
        self.assertTrue(desk.renewed)
        self.assertIsNone(desk.order)
        desk.undo()
        self.assertFalse(desk.renewed)
        self.assertEqual((), desk.order)
        desk.redo()
        self.assertTrue(desk.renewed)
        desk.cut_tie("t")
        self.assertEqual((True, ()), (desk.renewed, desk.order))
        desk.undo()
        self.assertEqual((True, None), (desk.renewed, desk.order))

    def test_a_desk_that_has_nothing_to_undo(self):
        self.assert_raises(NothingToUndo, {}, Desk().undo)
        self.assert_raises(NothingToRedo, {}, Desk().redo)
        desk = Desk()
        desk.add_place("a")
        desk.undo()
        self.assertEqual(state_of(Desk()), state_of(desk))


class OrderTests(unittest.TestCase, Cases):
    def test_places(self):
        desk = ladder()
        self.assertEqual((("b",), False), (desk.order, desk.renewed))
        desk.add_place("d")
        self.assertEqual((("b",), False), (desk.order, desk.renewed))
        desk.remove_place("d")
        self.assertEqual((("b",), False), (desk.order, desk.renewed))
        knotted = ladder(True)
        knotted.add_place("d")
        self.assertEqual((None, False), (knotted.order, knotted.renewed))
        knotted.remove_place("d")
        self.assertEqual((None, False), (knotted.order, knotted.renewed))

    def test_a_tie_between_parts_puts_new_joints_first_in_order_of_the_places(self):
        desk = Desk()
        for name in "zyxw":
            desk.add_place(name)
        for tie in (("k", "z", 0, "y", 0), ("l", "x", 0, "w", 0), ("m", "x", 1, "z", 1)):
            desk.add_tie(*tie)
        self.assertEqual((("z", "x"), False), (desk.order, desk.renewed))
        desk.add_place("v")
        desk.add_tie("n", "w", 1, "v", 0)
        self.assertEqual((("w", "z", "x"), False), (desk.order, desk.renewed))
        desk.cut_tie("m")
        self.assertEqual((("w",), False), (desk.order, desk.renewed))

    def test_a_tie_within_a_part_makes_the_order_anew(self):
        desk = ladder()
        desk.add_tie("v", "b", 1, "c", 0)
        self.assertEqual((("b",), True), (desk.order, desk.renewed))
        desk.add_tie("w", "a", 1, "a", 1)
        self.assertEqual((("a", "b"), True), (desk.order, desk.renewed))
        desk.add_tie("x", "c", 1, "c", 0)
        self.assertEqual((None, True), (desk.order, desk.renewed))
        desk.add_tie("y", "c", 1, "a", 0)
        self.assertEqual((None, False), (desk.order, desk.renewed))
        desk.cut_tie("y")
        self.assertEqual((None, True), (desk.order, desk.renewed))
        desk.cut_tie("x")
        self.assertEqual((("a", "b"), True), (desk.order, desk.renewed))
        desk.cut_tie("w")
        self.assertEqual((("b",), False), (desk.order, desk.renewed))

    def test_a_loop_at_a_place_alone(self):
        desk = Desk()
        desk.add_place("a", 2)
        desk.add_tie("t", "a", 0, "a", 0)
        self.assertEqual(((), True), (desk.order, desk.renewed))
        desk.add_tie("u", "a", 0, "a", 1)
        self.assertEqual((None, True), (desk.order, desk.renewed))

    def test_random_edits_against_the_words_of_the_document(self):
        rng = random.Random(99)
        orders = []
        for _ in range(40):
            desk, models, undone = Desk(), [Model()], []
            for _ in range(60):
                self.edit(rng, desk, models, undone)
                self.assertEqual(models[-1].state(), state_of(desk))
                self.check_order(desk)
                orders.append((desk.order is None, desk.renewed))
            self.assertEqual(state_of(desk), state_of(Desk.replay(desk.journal)))
        self.assertGreater(min(orders.count((one, other)) for one in (True, False) for other in (True, False)), 50)

    def edit(self, rng, desk, models, undone):
        """Make a random edit on the desk and on the model."""
        move = rng.choice(["place", "tie", "tie", "tie", "cut", "cut", "remove", "undo", "redo"])
        model = models[-1].copy()
        names, ties = model.names(), [tie[0] for tie in model.ties]
        if move == "undo" and len(models) > 1:
            desk.undo()
            undone.append(models.pop())
        elif move == "redo" and undone:
            desk.redo()
            models.append(undone.pop())
        elif move in ("undo", "redo"):
            self.assert_raises(NothingToUndo if move == "undo" else NothingToRedo, {}, getattr(desk, move))
        else:
            args = None
            if move == "place" and len(names) < 8:
                args = ("add_place", rng.choice([name for name in "abcdefghi" if name not in names]), rng.randint(1, 4))
            if move == "tie" and names:
                (one, sides), (other, far_sides) = rng.choice(model.places), rng.choice(model.places)
                name = rng.choice([f"t{number}" for number in range(60) if f"t{number}" not in ties])
                args = ("add_tie", name, one, rng.randrange(sides), other, rng.randrange(far_sides))
            if move == "cut" and ties:
                args = ("cut_tie", rng.choice(ties))
            free = [name for name in names if all(name not in (tie[1], tie[3]) for tie in model.ties)]
            if move == "remove" and free:
                args = ("remove_place", rng.choice(free))
            if args:
                getattr(desk, args[0])(*args[1:])
                getattr(model, args[0])(*args[1:])
                models.append(model)
                undone.clear()

    def check_order(self, desk):
        """The kept order opens all joints, or it is None and there is a turning cycle."""
        web = desk.web
        self.assertIs(desk.order is None, knot(web) != [])
        if desk.order is not None:
            numbers = [desk.place_names.index(name) for name in desk.order]
            self.assertIsNone(fault_in_order(web, numbers))
            self.assertEqual(list(web.joints), sorted(numbers))
            self.assertEqual(("apart", list(desk.order)), desk.verdict())
            self.assertIsNone(desk.fault(desk.order))
        else:
            expected = [(desk.tie_names[tie], direction) for tie, direction in cycle_by_dropping(web)]
            self.assertEqual(("cycle", expected), desk.verdict())


class QuestionsTests(unittest.TestCase, Cases):
    def test_fault(self):
        desk = ladder()
        desk.add_tie("v", "c", 1, "a", 1)
        desk.add_place("d")
        desk.add_tie("w", "d", 0, "d", 0)
        self.assertIsNone(desk.order)
        self.assertIsNone(desk.fault([]))
        self.assertEqual(0, desk.fault(["a"]))
        desk.undo()
        desk.cut_tie("v")
        desk.add_place("e")
        desk.add_tie("v", "c", 1, "e", 0)
        self.assertEqual(("c", "b"), desk.order)
        for names, index in (([], None), (["b"], None), (["b", "c"], None), (("c", "b"), None), (["c", "b", "c"], 2),
                             (["a"], 0), (["b", "a"], 1), (["b", "x"], 1), (["", "b"], 0), (["b", "b"], 1),
                             (["e", "c"], 0), (["c", "t"], 1), (["c", "C"], 1)):
            self.assertEqual(index, desk.fault(names))

    def test_fault_against_orders_of_the_web(self):
        rng = random.Random(98)
        for _ in range(60):
            desk = Desk()
            for name in "abcde":
                desk.add_place(name, 3)
            for number in range(rng.randint(3, 7)):
                desk.add_tie(f"t{number}", rng.choice("abcde"), rng.randrange(3), rng.choice("abcde"), rng.randrange(3))
            names = rng.sample("abcdefg", 6)
            numbers = ["abcde".find(name) for name in names]
            self.assertEqual(fault_in_order(desk.web, numbers), desk.fault(names))
            order = [desk.place_names[place] for place in opening_order(desk.web)]
            self.assertIsNone(desk.fault(order))

    def test_verdict(self):
        desk = ladder(True)
        self.assertEqual(("cycle", [("t", 0), ("u", 0)]), desk.verdict())
        desk.verdict()[1].append("changed")
        self.assertEqual(("cycle", [("t", 0), ("u", 0)]), desk.verdict())
        desk = ladder()
        self.assertEqual(("apart", ["b"]), desk.verdict())
        desk.verdict()[1].append("changed")
        self.assertEqual(("apart", ["b"]), desk.verdict())
        self.assertEqual(("b",), desk.order)


BAD_LINES = ("", " ", "place", "place a", "place a 2 3", "place  a 2", " place a 2", "place a 2 ", "place a  2",
             "place a 02",
             "place a x", "place a -1", "place a +2", "place a 2.0", "place a 1234567890", "place a 00", "Place a 2",
             "places a 2", "tie", "tie t", "tie t a:0", "tie t a:0 b:0 c:0", "tie t a b:0", "tie t a:0 b",
             "tie t a: b:0",
             "tie t a:0 b:", "tie t a:0 b:00", "tie t a:01 b:0", "tie t a:x b:0", "tie t a:0:0 b:0", "tie t a:0 b::0",
             "tie t a:0  b:0", "tie t a:-1 b:0", "tie t a;0 b:0", "tie t a:0 b:1234567890", "cut", "cut t u", "cut ",
             "cut  t", " cut t", "cut t ", "remove", "remove a b", "remove  a", "undo", "redo", "add a 2", "a", "2",
             "place a 2 tie", "place\ta 2", "place a\t2", "place a \u0662", "removes a")


class JournalTests(unittest.TestCase, Cases):
    def test_lines_that_are_obeyed(self):
        desk = Desk()
        for line in ("place a 2", "place b 1", "tie t a:1 b:0", "cut t", "remove a"):
            self.assertIsNone(desk.obey(line))
        self.assertEqual("place a 2\nplace b 1\ntie t a:1 b:0\ncut t\nremove a", desk.journal)
        self.assertEqual((("b",), ()), (desk.place_names, desk.tie_names))

    def test_bad_lines(self):
        desk = ladder()
        before = state_with_history(desk)
        for line in BAD_LINES:
            self.assert_raises(BadLine, {"line": 1}, desk.obey, line)
            self.assert_raises(BadLine, {"line": 7}, desk.obey, line, 7)
            self.assert_raises(BadLine, {"line": 8}, desk.obey, line, number=8)
            self.assert_raises(BadLine, {"line": 3}, desk.obey_all, ["place d 2", "cut t", line, "no"])
            self.assert_raises(BadLine, {"line": 2}, Desk.replay, "place a 2\n" + line)
            self.assert_raises(BadLine, {"line": 2}, Desk.replay, "place a 2\n" + line + "\nplace a 2")
        self.assertEqual(before, state_with_history(desk))

    def test_errors_of_the_edits(self):
        desk = ladder()
        before = state_with_history(desk)
        for line, error, fields in (("place A 2", BadLabel, {"name": "A"}), ("place a_ 9", BadLabel, {"name": "a_"}),
                                    ("place abcdefghijklm 2", BadLabel, {"name": "abcdefghijklm"}),
                                    ("place b 9", NameTaken, {"name": "b"}), ("place d 0", BadSides, {"place": 3}),
                                    ("place d 5", BadSides, {"place": 3}), ("tie T a:0 b:0", BadLabel, {"name": "T"}),
                                    ("tie t x:0 b:0", NameTaken, {"name": "t"}),
                                    ("tie v x:0 y:0", NoSuchName, {"name": "x"}),
                                    ("tie v a:0 y:0", NoSuchName, {"name": "y"}),
                                    ("tie v :0 b:0", NoSuchName, {"name": ""}),
                                    ("tie v a:0 :0", NoSuchName, {"name": ""}),
                                    ("tie v A:0 b:0", NoSuchName, {"name": "A"}),
                                    ("tie v a:0 b:2", UnknownSide, {"place": 1, "side": 2}),
                                    ("tie v a:999999999 b:2", UnknownSide, {"place": 0, "side": 999999999}),
                                    ("cut v", NoSuchName, {"name": "v"}), ("cut A:0", NoSuchName, {"name": "A:0"}),
                                    ("remove d", NoSuchName, {"name": "d"}), ("remove a", StillTied, {"name": "a"})):
            self.assert_raises(error, fields, desk.obey, line)
            self.assert_raises(error, fields, desk.obey_all, ("cut u", "tie u b:1 c:0", line))
            self.assertEqual(before, state_with_history(desk))
            self.assert_raises(error, fields, Desk.replay, ladder().journal + "\n" + line)

    def test_a_bad_line_before_the_errors_of_the_edit(self):
        desk = ladder()
        for line in ("place A 02", "tie T x:0 y", "tie t x y:0", "tie t a:9 b:09"):
            self.assert_raises(BadLine, {"line": 1}, desk.obey, line)

    def test_obey_all(self):
        desk = ladder()
        self.assertIsNone(desk.obey_all(["cut u", "remove c"]))
        self.assertEqual(("a", "b"), desk.place_names)
        desk.obey_all([])
        desk.obey_all(())
        desk.undo()
        self.assertEqual(("a", "b", "c"), desk.place_names)

    def test_an_error_takes_all_lines_back(self):
        desk = ladder()
        desk.undo()
        before = state_with_history(desk)
        self.assert_raises(BadLine, {"line": 2}, desk.obey_all, ["place d 2", "place"])
        self.assertEqual(before, state_with_history(desk))
        self.assert_raises(NameTaken, {"name": "d"}, desk.obey_all, ["place d 2", "tie x d:0 a:0", "place d 2"])
        self.assertEqual(before, state_with_history(desk))
        desk.redo()
        self.assertEqual(state_of(ladder()), state_of(desk))

    def test_replay(self):
        for text in ("", "place a 1", ladder().journal, ladder(True).journal + "\ncut t\nremove c"):
            desk = Desk.replay(text)
            self.assertEqual(text, desk.journal)
            self.assertEqual(state_of(desk), state_of(Desk.replay(desk.journal)))
        self.assertEqual(state_of(Desk()), state_of(Desk.replay("")))
        self.assertEqual(state_with_history(ladder(True)), state_with_history(Desk.replay(ladder(True).journal)))
        self.assert_raises(BadLine, {"line": 2}, Desk.replay, "place a 2\n")
        self.assert_raises(BadLine, {"line": 1}, Desk.replay, "\nplace a 2")
        self.assert_raises(BadLine, {"line": 1}, Desk.replay, "\n")
        self.assert_raises(NoSuchName, {"name": "t"}, Desk.replay, "place a 2\ncut t\nno")

    def test_what_is_taken_back_is_not_in_the_journal(self):
        desk = ladder()
        desk.undo()
        desk.undo()
        self.assertEqual("place a 2\nplace b 2\nplace c 2", desk.journal)
        desk.redo()
        self.assertEqual("place a 2\nplace b 2\nplace c 2\ntie t a:0 b:0", desk.journal)


class Stop(Exception):
    """An error that is none of the program's."""


class BatchTests(unittest.TestCase, Cases):
    def test_a_block_without_an_error(self):
        desk = ladder()
        with Batch(desk) as held:
            self.assertIs(desk, held)
            held.cut_tie("u")
            held.remove_place("c")
        self.assertEqual(("a", "b"), desk.place_names)
        desk.undo()
        self.assertEqual(("a", "b", "c"), desk.place_names)

    def test_a_block_with_an_error(self):
        for error in (Stop, NothingToUndo, KeyboardInterrupt):
            desk = ladder()
            desk.undo()
            before = state_with_history(desk)
            with self.assertRaises(error):
                with Batch(desk):
                    desk.add_place("d")
                    desk.add_tie("v", "d", 0, "a", 1)
                    desk.undo()
                    desk.undo()
                    desk.undo()
                    raise error()
            self.assertEqual(before, state_with_history(desk))

    def test_an_error_that_stays_in_the_block(self):
        desk = ladder()
        with Batch(desk):
            desk.add_place("d")
            self.assert_raises(NameTaken, {"name": "a"}, desk.add_place, "a")
        self.assertEqual(("a", "b", "c", "d"), desk.place_names)

    def test_an_error_of_an_edit_leaves_the_block(self):
        desk = ladder()
        before = state_with_history(desk)
        with self.assertRaises(NameTaken) as caught:
            with Batch(desk) as held:
                held.add_place("d")
                held.add_place("d")
        self.assertEqual("d", caught.exception.name)
        self.assertEqual(before, state_with_history(desk))

    def test_several_blocks_one_after_another(self):
        desk = ladder()
        batch = Batch(desk)
        with batch:
            desk.add_place("d")
        with self.assertRaises(Stop):
            with batch:
                desk.add_place("e")
                desk.cut_tie("u")
                raise Stop()
        self.assertEqual((("a", "b", "c", "d"), ("t", "u")), (desk.place_names, desk.tie_names))
        desk.add_place("f")
        with batch as held:
            held.add_place("g")
        with self.assertRaises(Stop):
            with batch:
                desk.undo()
                raise Stop()
        self.assertEqual(("a", "b", "c", "d", "f", "g"), desk.place_names)

    def test_a_block_within_a_block(self):
        desk = ladder()
        with Batch(desk):
            desk.add_place("d")
            with self.assertRaises(Stop):
                with Batch(desk):
                    desk.add_place("e")
                    raise Stop()
            self.assertEqual(("a", "b", "c", "d"), desk.place_names)
            self.assert_raises(BadLine, {"line": 2}, desk.obey_all, ["place e 2", "no"])
        self.assertEqual(("a", "b", "c", "d"), desk.place_names)

    def test_two_desks(self):
        one, other = ladder(), ladder()
        with self.assertRaises(ComesapartError):
            with Batch(one):
                one.add_place("d")
                other.add_place("d")
                raise NothingToUndo()
        self.assertEqual((("a", "b", "c"), ("a", "b", "c", "d")), (one.place_names, other.place_names))

    def test_large_desks(self):
        desk = Desk()
        desk.obey_all([f"place p{number} 4" for number in range(200)])
        desk.obey_all([f"tie t{number} p{number}:0 p{number + 1}:1" for number in range(199)])
        self.assertEqual((198, False), (len(desk.order), desk.renewed))
        desk.obey_all([f"tie u{number} p{number}:0 p{number + 1}:1" for number in range(3)])
        self.assertEqual((198, True), (len(desk.order), desk.renewed))
        desk.add_tie("v", "p199", 0, "p0", 1)
        self.assertIsNone(desk.order)
        self.assertEqual("cycle", desk.verdict()[0])
        self.assertEqual(state_of(desk), state_of(Desk.replay(desk.journal)))


if __name__ == "__main__":
    unittest.main()
