"""Point 103: the table of a desk."""

import random
import unittest

from helpers import Cases

from comesapart.desk import Desk
from comesapart.openings import knot, opening_order
from comesapart.reports import desk_table


class TableTests(unittest.TestCase, Cases):
    def test_without_places(self):
        self.assertEqual([], desk_table(Desk()))

    def test_while_there_is_an_order(self):
        desk = Desk.replay("place a 2\nplace abcdefghijkl 4\nplace c 3\ntie t a:0 abcdefghijkl:3\n"
                           "tie u abcdefghijkl:1 c:0\ntie v c:2 c:2\ntie w c:2 c:2")
        self.assertEqual(["a            2   1     -", "abcdefghijkl 4   2     1", "c            3   5     2"],
                         desk_table(desk))

    def test_the_kept_order_counts(self):
        # The lowest opening order opens b first, and the kept order opens c first.
        desk = Desk.replay("place a 2\nplace b 2\nplace c 2\nplace d 2\ntie t a:0 b:0\ntie u b:1 c:0\ntie v c:1 d:0")
        self.assertEqual(("c", "b"), desk.order)
        self.assertEqual([1, 2], opening_order(desk.web))
        self.assertEqual(["a            2   1     -", "b            2   2     2", "c            2   2     1",
                          "d            2   1     -"], desk_table(desk))

    def test_with_a_knot(self):
        desk = Desk.replay("place z 2\nplace y 2\nplace x 2\nplace w 2\nplace v 1\ntie k z:0 y:0\ntie l y:1 z:1\n"
                           "tie m w:0 x:0\ntie n x:1 v:0\ntie o w:1 v:0\ntie p y:1 w:1")
        self.assertIsNone(desk.order)
        self.assertEqual(["z            2   2  knot", "y            2   3  knot", "x            2   2     1",
                          "w            2   3     2", "v            1   2     -"], desk_table(desk))

    def test_wide_positions(self):
        desk = Desk()
        desk.obey_all([f"place p{number} 2" for number in range(200)])
        desk.obey_all([f"tie t{number} p{number}:1 p{number + 1}:0" for number in range(199)])
        rows = desk_table(desk)
        self.assertEqual("p1           2   2   198", rows[1])
        self.assertEqual("p198         2   2     1", rows[198])
        self.assertEqual({24}, {len(row) for row in rows})
        desk = Desk.replay("place a 1")
        desk.obey_all([f"tie t{number} a:0 a:0" for number in range(300)])
        self.assertEqual(["a            1 600     -"], desk_table(desk))

    def rows_by_words(self, desk):
        rows = []
        web = desk.web
        for place, name in enumerate(desk.place_names):
            ends = len([end for tie in web.ties for end in (tie[0], tie[2]) if end == place])
            position = "-"
            if place in web.joints:
                order = desk.order
                if order is None:
                    order = [desk.place_names[joint] for joint in opening_order(web)]
                position = "knot" if desk.order is None and place in knot(web) else str(list(order).index(name) + 1)
            rows.append(name.ljust(12) + str(web.sides[place]).rjust(2) + str(ends).rjust(4) + position.rjust(6))
        return rows

    def test_against_the_words_of_the_document(self):
        rng = random.Random(103)
        knots = 0
        for _ in range(80):
            desk = Desk()
            names = rng.sample(["a", "b1", "c22", "d333", "e4444", "f55555", "abcdefghijkl"], rng.randint(1, 7))
            for name in names:
                desk.add_place(name, rng.randint(1, 4))
            for number in range(rng.randint(0, 8)):
                one, other = rng.randrange(len(names)), rng.randrange(len(names))
                desk.add_tie(f"t{number}", names[one], rng.randrange(desk.web.sides[one]), names[other],
                             rng.randrange(desk.web.sides[other]))
            knots += desk.order is None
            self.assertEqual(self.rows_by_words(desk), desk_table(desk))
        self.assertTrue(20 < knots < 70)

    def test_new_lists(self):
        desk = Desk.replay("place a 2")
        desk_table(desk).append("changed")
        self.assertEqual(["a            2   0     -"], desk_table(desk))


if __name__ == "__main__":
    unittest.main()
