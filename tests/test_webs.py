"""Points 4, 5 and 8: webs."""

import unittest

from helpers import Cases, small_webs, steps_of

from comesapart.errors import BadSides, TooLarge, UnknownPlace, UnknownSide, UnknownTie
from comesapart.webs import Web

# Place 0 has a loop on two sides and a loop on one side; two ties are equal; side 3 of place 0 is not used.
WEB = Web([4, 2, 1, 1], [(0, 0, 0, 1), (0, 2, 0, 2), (1, 0, 0, 0), (1, 0, 0, 0), (2, 0, 1, 1)])


class MakingTests(unittest.TestCase, Cases):
    def test_fields_are_tuples_as_passed(self):
        self.assertEqual((4, 2, 1, 1), WEB.sides)
        self.assertEqual(((0, 0, 0, 1), (0, 2, 0, 2), (1, 0, 0, 0), (1, 0, 0, 0), (2, 0, 1, 1)), WEB.ties)
        self.assertIs(tuple, WEB.sides.__class__)
        self.assertEqual([tuple] * 5, [tie.__class__ for tie in WEB.ties])

    def test_tuples_may_be_passed(self):
        self.assertEqual(WEB, Web(WEB.sides, WEB.ties))

    def test_later_changes_to_the_arguments_have_no_effect(self):
        sides, ties = [2, 1], [(0, 0, 1, 0)]
        web = Web(sides, ties)
        sides[0] = 1
        ties.append((0, 1, 0, 1))
        ties[0] = (0, 1, 1, 0)
        self.assertEqual(((2, 1), ((0, 0, 1, 0),)), (web.sides, web.ties))
        self.assertEqual([(0, 0)], web.steps_from(0))

    def test_class_values(self):
        self.assertEqual((200, 300, 4), (Web.MOST_PLACES, Web.MOST_TIES, Web.MOST_SIDES))

    def test_empty_web(self):
        self.assertEqual(((), (), ()), (Web.empty().sides, Web.empty().ties, Web.empty().joints))
        self.assertEqual(Web([], []), Web.empty())
        self.assertIs(Web, Web.empty().__class__)

    def test_limit_of_places(self):
        self.assertEqual(200, len(Web([1] * 200, []).sides))
        self.assert_raises(TooLarge, {"limit": 200}, Web, [1] * 201, [])

    def test_limit_of_ties(self):
        self.assertEqual(300, len(Web([1], [(0, 0, 0, 0)] * 300).ties))
        self.assert_raises(TooLarge, {"limit": 300}, Web, [1], [(0, 0, 0, 0)] * 301)

    def test_numbers_of_sides(self):
        self.assertEqual((1, 2, 3, 4), Web([1, 2, 3, 4], []).sides)
        for count in (0, 5, -1, 10 ** 20):
            self.assert_raises(BadSides, {"place": 1}, Web, [4, count], [])

    def test_first_place_with_wrong_sides(self):
        self.assert_raises(BadSides, {"place": 1}, Web, [1, 5, 0, 5], [])

    def test_unknown_place(self):
        for place in (2, -1, 10 ** 20):
            self.assert_raises(UnknownPlace, {"place": place}, Web, [1, 1], [(place, 0, 0, 0)])
            self.assert_raises(UnknownPlace, {"place": place}, Web, [1, 1], [(0, 0, place, 0)])
        self.assert_raises(UnknownPlace, {"place": 0}, Web, [], [(0, 0, 0, 0)])

    def test_unknown_side(self):
        for side in (2, -1, 10 ** 20):
            self.assert_raises(UnknownSide, {"place": 1, "side": side}, Web, [1, 2], [(1, side, 0, 0)])
            self.assert_raises(UnknownSide, {"place": 1, "side": side}, Web, [1, 2], [(0, 0, 1, side)])

    def test_order_of_the_errors(self):
        bad_tie = (9, 9, 9, 9)
        self.assert_raises(TooLarge, {"limit": 200}, Web, [0] * 201, [bad_tie] * 301)
        self.assert_raises(TooLarge, {"limit": 300}, Web, [0], [bad_tie] * 301)
        self.assert_raises(BadSides, {"place": 0}, Web, [0], [bad_tie])
        self.assert_raises(UnknownPlace, {"place": 9}, Web, [1], [(9, 9, 8, 0)])
        self.assert_raises(UnknownSide, {"place": 0, "side": 7}, Web, [1], [(0, 7, 8, 0)])
        self.assert_raises(UnknownPlace, {"place": 8}, Web, [1], [(0, 0, 8, 7)])
        self.assert_raises(UnknownSide, {"place": 0, "side": 6}, Web, [1], [(0, 0, 0, 6), (9, 0, 0, 0)])


class StepTests(unittest.TestCase, Cases):
    def test_tail_and_head(self):
        self.assertEqual((2, 0), WEB.tail((4, 0)))
        self.assertEqual((1, 1), WEB.head((4, 0)))
        self.assertEqual((1, 1), WEB.tail((4, 1)))
        self.assertEqual((2, 0), WEB.head((4, 1)))
        self.assertEqual([(0, 0), (0, 1)], [WEB.tail((0, 0)), WEB.head((0, 0))])

    def test_tail_and_head_of_an_unknown_tie(self):
        for tie in (5, -1, 10 ** 20):
            for direction in (0, 1):
                self.assert_raises(UnknownTie, {"tie": tie}, WEB.tail, (tie, direction))
                self.assert_raises(UnknownTie, {"tie": tie}, WEB.head, (tie, direction))
        self.assert_raises(UnknownTie, {"tie": 0}, Web.empty().head, (0, 0))

    def test_back(self):
        self.assertEqual([(3, 1), (3, 0)], [Web.back((3, 0)), Web.back((3, 1))])
        self.assertEqual((10 ** 20, 0), WEB.back((10 ** 20, 1)))
        for web in small_webs(20, 5):
            for step in steps_of(web):
                self.assertEqual(web.tail(step), web.head(Web.back(step)))

    def test_steps_from(self):
        self.assertEqual([(0, 0), (0, 1), (1, 0), (1, 1), (2, 1), (3, 1)], WEB.steps_from(0))
        self.assertEqual([(2, 0), (3, 0), (4, 1)], WEB.steps_from(1))
        self.assertEqual([], WEB.steps_from(3))
        for web in small_webs(30, 1):
            for place in range(len(web.sides)):
                expected = [step for step in steps_of(web) if web.tail(step)[0] == place]
                self.assertEqual(expected, web.steps_from(place))

    def test_used_sides(self):
        self.assertEqual([[0, 1, 2], [0, 1], [0], []], [WEB.used_sides(place) for place in range(4)])

    def test_unknown_place(self):
        for place in (4, -1, 10 ** 20):
            self.assert_raises(UnknownPlace, {"place": place}, WEB.steps_from, place)
            self.assert_raises(UnknownPlace, {"place": place}, WEB.used_sides, place)

    def test_lists_are_new(self):
        self.assert_new_list(WEB.steps_from, 0)
        self.assert_new_list(WEB.used_sides, 0)

    def test_joints(self):
        self.assertEqual((0, 1), WEB.joints)
        self.assertEqual((), Web([4, 4], [(0, 0, 1, 3), (0, 0, 0, 0)]).joints)
        self.assertEqual((0,), Web([4], [(0, 0, 0, 3)]).joints)
        self.assertIs(tuple, WEB.joints.__class__)
        for web in small_webs(30, 2):
            expected = [place for place in range(len(web.sides)) if len(web.used_sides(place)) >= 2]
            self.assertEqual(tuple(expected), web.joints)


class ValueTests(unittest.TestCase, Cases):
    def test_contains(self):
        self.assertEqual([True, True, False, False, False],
                         [place in WEB for place in (0, 3, 4, -1, 10 ** 20)])
        self.assertFalse(0 in Web.empty())

    def test_iteration_yields_the_ties(self):
        self.assertEqual(list(WEB.ties), [tie for tie in WEB])
        self.assertEqual([], list(Web.empty()))

    def test_two_loops_at_once(self):
        web = Web([1, 1], [(0, 0, 1, 0), (1, 0, 1, 0)])
        self.assertEqual(4, len([(one, other) for one in web for other in web]))

    def test_equality(self):
        self.assertTrue(Web([2], [(0, 0, 0, 1)]) == Web((2,), ((0, 0, 0, 1),)))
        self.assertFalse(Web([2], []) == Web([3], []))
        self.assertFalse(Web([2], [(0, 0, 0, 1)]) == Web([2], [(0, 1, 0, 0)]))
        self.assertFalse(Web([1], [(0, 0, 0, 0)]) == Web([1], [(0, 0, 0, 0)] * 2))
        one, other = (0, 0, 1, 0), (1, 0, 1, 0)
        self.assertTrue(Web([1, 1], [one, other]) != Web([1, 1], [other, one]))

    def test_a_web_equals_no_other_value(self):
        self.assert_only_equal_to_its_class(WEB, WEB.ties, (WEB.sides, WEB.ties))
        self.assert_only_equal_to_its_class(Web.empty())

    def test_sum(self):
        whole = Web([2, 1], [(0, 1, 1, 0)]) + Web([3, 1, 1], [(0, 2, 2, 0), (1, 0, 1, 0)])
        self.assertEqual(Web([2, 1, 3, 1, 1], [(0, 1, 1, 0), (2, 2, 4, 0), (3, 0, 3, 0)]), whole)

    def test_sum_with_the_empty_web(self):
        self.assertEqual(WEB, WEB + Web.empty())
        self.assertEqual(WEB, Web.empty() + WEB)
        self.assertEqual(Web.empty(), Web.empty() + Web.empty())

    def test_sum_changes_nothing(self):
        before = (WEB.sides, WEB.ties)
        both = WEB + WEB
        self.assertEqual(before, (WEB.sides, WEB.ties))
        self.assertEqual((0, 1, 4, 5), both.joints)
        self.assertEqual([(7, 0), (8, 0), (9, 1)], both.steps_from(5))

    def test_limits_of_a_sum(self):
        hundred = Web([1] * 100, [(0, 0, 1, 0)] * 150)
        self.assertEqual((200, 300), (len((hundred + hundred).sides), len((hundred + hundred).ties)))
        self.assert_raises(TooLarge, {"limit": 200}, hundred.__add__, Web([1] * 101, [(0, 0, 0, 0)] * 151))
        self.assert_raises(TooLarge, {"limit": 300}, hundred.__add__, Web([1] * 100, [(0, 0, 0, 0)] * 151))


if __name__ == "__main__":
    unittest.main()
