"""Point 1: a web, a paired web, a wiring and a program, carried through all views that the document connects."""

import random
import unittest

from helpers import random_program, small_paired, small_programs, small_webs, small_wirings

from comesapart.alternating import alternating_cycles, changed_along, parting_cycles, web_of_pairs
from comesapart.barriers import bars
from comesapart.bridges import (bridge_order, bridges_of_openings, core, fault_in_bridges, is_only_pairing,
                                openings_of_bridges)
from comesapart.cycles import is_turning_cycle, normal_cycle
from comesapart.derivations import fault_in_derivation, find_derivation, opening_of
from comesapart.desk import Desk
from comesapart.detours import pairings_without, strict_path
from comesapart.errors import TooLarge
from comesapart.exchanges import node_orders
from comesapart.gadgets import lead_in, lead_out, paired_of_web
from comesapart.inverses import never_zero
from comesapart.joining import first_state, joined, web_of_state
from comesapart.kinds import Kind, alike, is_arrow
from comesapart.kindtext import format_kind, parse_kind
from comesapart.likeness import Likeness
from comesapart.moves import both_pairs, heap_pairs, moved, moves_of, wiring_of_pairs
from comesapart.openings import fault_in_order, knot, opening_order, waves
from comesapart.orders import count_orders
from comesapart.pairedwebs import PairedWeb
from comesapart.pairings import pairings, tie_uses
from comesapart.parting import parting_choices
from comesapart.pfaffians import pairing_sum, pfaffian
from comesapart.pivots import is_kept, touching_order, worked_off
from comesapart.principal import principal_kind
from comesapart.programs import format_program, parse_program, plainly_named, redexes, step_at, worked
from comesapart.programwirings import application, forced_links, program_of_kind
from comesapart.reports import desk_table
from comesapart.reshape import leafed, renumbered, restricted, web_parts
from comesapart.search import cycle_by_dropping, turning_cycles, verdict
from comesapart.settings import ring_under, setting_of, settings
from comesapart.sinking import sinking_weights
from comesapart.standing import (all_links, barring_cycle, can_stand_for, plain_links, standings, there_and_back,
                                 wiring_of_kinds)
from comesapart.statuses import agree, parting_signs
from comesapart.through import cycle_through_place, cycle_through_tie, on_cycles
from comesapart.webs import Web
from comesapart.webtext import format_web, parse_web
from comesapart.wirings import Wiring
from comesapart.wiringtext import format_wiring, parse_wiring
from comesapart.wiringwebs import is_sound, is_whole, web_of_wiring


def desk_of(web):
    """Return a desk with the places and the ties of the web."""
    desk = Desk()
    for place, sides in enumerate(web.sides):
        desk.add_place(f"p{place}", sides)
    for tie, (place, side, other, far_side) in enumerate(web.ties):
        desk.add_tie(f"t{tie}", f"p{place}", side, f"p{other}", far_side)
    return desk


class WholeTests(unittest.TestCase):
    def check_web(self, web):
        """Check that all views find the same decision; return True if the web can be taken apart."""
        apart = knot(web) == []
        self.assertIs(apart, sorted(opening_order(web)) == list(web.joints))
        self.assertIs(apart, sorted(place for wave in waves(web) for place in wave) == list(web.joints))
        self.assertIs(apart, turning_cycles(web) == [])
        cycle = cycle_by_dropping(web)
        self.assertIs(apart, cycle is None)
        self.assertEqual(("apart", opening_order(web)) if apart else ("cycle", cycle), verdict(web))
        self.assertEqual(web, parse_web(format_web(web)))
        self.assertIs(apart, knot(leafed(web)) == [])
        self.assertEqual(turning_cycles(web), turning_cycles(leafed(web)))
        turned = renumbered(web, places=list(range(len(web.sides)))[::-1], ties=list(range(len(web.ties)))[::-1])
        self.assertIs(apart, knot(turned) == [])
        self.assertIs(apart, all(knot(restricted(web, part)) == [] for part in web_parts(web)))
        self.assertIs(apart, knot(web + Web([2], [])) == [])
        places, ties = on_cycles(web)
        self.assertEqual((apart, apart), (places == [], ties == []))
        self.assertEqual(places,
                         [place for place in range(len(web.sides)) if cycle_through_place(web, place)[0] == "cycle"])
        self.assertEqual(ties, [tie for tie in range(len(web.ties)) if cycle_through_tie(web, tie)[0] == "cycle"])
        if len(web.joints) <= 10:
            self.assertLess(0, count_orders(web))
        self.check_desk(web, apart)
        self.check_gadgets(web, apart)
        return apart

    def check_desk(self, web, apart):
        desk = desk_of(web)
        self.assertEqual(web, desk.web)
        self.assertIs(apart, desk.order is not None)
        self.assertEqual("apart" if apart else "cycle", desk.verdict()[0])
        self.assertIs(apart, all(not row.endswith("knot") for row in desk_table(desk)))
        again = Desk.replay(desk.journal)
        self.assertEqual((desk.order, desk.verdict()), (again.order, again.verdict()))
        if apart:
            self.assertIsNone(fault_in_order(web, [desk.place_names.index(name) for name in desk.order]))
        else:
            steps = [(desk.tie_names.index(name), direction) for name, direction in desk.verdict()[1]]
            self.assertEqual(cycle_by_dropping(web), steps)
            # When the ties of one cycle after another are cut, the web comes apart in the end.
            while desk.order is None:
                desk.cut_tie(desk.verdict()[1][0][0])
            self.assertEqual([], knot(desk.web))

    def check_gadgets(self, web, apart):
        paired = paired_of_web(web)
        self.assertIs(apart, is_only_pairing(paired))
        self.assertIs(apart, knot(web_of_pairs(paired)) == [])
        for cycle in turning_cycles(web)[:5]:
            led = lead_in(web, cycle)
            self.assertTrue(is_turning_cycle(web_of_pairs(paired), led))
            self.assertEqual(cycle, lead_out(web, led))
            chosen = changed_along(list(range(paired.pairs)), led)
            self.assertEqual([normal_cycle(led)], parting_cycles(paired, chosen))

    def check_paired(self, paired):
        """Check that all views find the same decision; return True if the pairs are the only pairing."""
        points = list(range(paired.points))
        only = is_only_pairing(paired)
        found = pairings(points, paired.all_ties)
        self.assertIn(list(range(paired.pairs)), found)
        self.assertIs(only, len(found) == 1)
        self.assertIs(only, core(paired) == [])
        self.assertIs(only, sorted(bridge_order(paired)) == list(range(paired.pairs)))
        self.assertIs(only, alternating_cycles(paired) == [])
        self.assertIs(only, "some" not in tie_uses(paired))
        web = web_of_pairs(paired)
        self.assertIs(only, knot(web) == [])
        self.assertEqual(len(found), len(pfaffian(paired, points).products))
        self.assertEqual(pairing_sum(paired, points), pfaffian(paired, points))
        weights, order = sinking_weights(paired), touching_order(paired)
        self.assertEqual((only, only), (weights is None, order is None))
        if only:
            bridges = bridges_of_openings(paired, opening_order(web))
            self.assertIsNone(fault_in_bridges(paired, bridges))
            self.assertIsNone(fault_in_order(web, openings_of_bridges(paired, bridge_order(paired))))
            self.assertTrue(all(is_kept(paired, bridges[:at], pair) for at, pair in enumerate(bridges)))
            pivots = worked_off(paired, [2] * len(paired.all_ties), bridge_order(paired))
            self.assertEqual([(2, 1)] * paired.pairs, pivots)
        else:
            self.assertEqual(0, pfaffian(paired, points).value(weights))
            self.assertFalse(is_kept(paired, order[:-1], order[-1]))
            self.assertTrue(all(is_kept(paired, order[:at], order[at]) for at in range(len(order) - 1)))
        for first in points[:3]:
            for last in points:
                if first != last:
                    word, answer = strict_path(paired, first, last)
                    rest = [point for point in points if point not in (first, last)]
                    count = len(pairings_without(paired, first, last))
                    self.assertIs(word == "path", count > 0)
                    self.assertIs(count == 1, never_zero(paired, first, last))
                    self.assertTrue(word == "path" or bars(rest, paired.all_ties, answer))
        return only

    def check_wiring(self, wiring):
        """Check that all views find the same decision; return True if the wiring is sound."""
        sound = is_sound(wiring)
        web = web_of_wiring(wiring)
        self.assertIs(sound, self.check_web(web))
        self.assertEqual(wiring, parse_wiring(format_wiring(wiring)))
        steps = find_derivation(wiring)
        self.assertIs(sound, steps is not None)
        self.assertIs(sound, all(ring_under(wiring, setting) is None for setting in settings(wiring)))
        choices = parting_choices(wiring)
        self.assertIs(sound, choices is None)
        if len(wiring.links) <= 5:
            self.assertIs(sound, parting_signs(wiring) == [])
        self.assertEqual(web_of_wiring(joined(wiring, [])), web_of_state(joined(wiring, []), first_state(
            joined(wiring, []), [])))
        self.assertIs(sound, is_sound(joined(wiring, [])))
        if sound:
            self.assertIsNone(fault_in_derivation(wiring, steps))
            self.assertEqual(list(web.joints), sorted(opening_of(wiring, steps)))
            self.assertIsNone(fault_in_order(web, opening_of(wiring, steps)))
            self.assertIs(is_whole(wiring), all(step[0] != "beside" for step in steps))
            pairs = heap_pairs(wiring.links)
            for move in moves_of(wiring, steps):
                pairs = moved(wiring.leaves, pairs, move)
            self.assertEqual(both_pairs(wiring), pairs)
            if len(wiring.nodes) <= 6:
                self.assertIs(is_whole(wiring), node_orders(wiring) != [])
        else:
            self.assertFalse(agree(wiring, Likeness.three(), *choices))
            setting = setting_of(wiring, cycle_by_dropping(web))
            self.assertIsNotNone(ring_under(wiring, setting))
        if len(wiring.roots) == 1:
            again = wiring_of_pairs(wiring.links, both_pairs(wiring))
            self.assertIs(sound, is_sound(again))
            self.assertIs(is_whole(wiring), is_whole(again))
        return sound

    def check_program(self, program):
        """Check that all views agree with the program that it becomes."""
        self.assertEqual(program, parse_program(format_program(program)))
        normal, _ = worked(program, [2, 1])
        kind = principal_kind(program)
        self.assertTrue(is_arrow(kind))
        self.assertEqual(kind, parse_kind(format_kind(kind)))
        self.assertEqual(kind, principal_kind(normal))
        self.assertEqual([kind] * len(redexes(program)),
                         [principal_kind(step_at(program, position)) for position in redexes(program)])
        self.assertEqual(plainly_named(normal), program_of_kind(kind))
        wiring = wiring_of_kinds([kind], forced_links(kind))
        self.assertTrue(is_whole(wiring))
        self.assertTrue(is_whole(wiring_of_kinds([~kind, kind], plain_links(kind))))
        if len(kind.letters) <= 6:
            self.assertTrue(can_stand_for(kind, kind))
            self.assertIn((plain_links(kind), plain_links(kind)), there_and_back(kind, kind))
        return wiring

    def test_webs(self):
        answers = [self.check_web(web) for web in small_webs(60, 1, most_places=6, most_ties=8, most_sides=4)]
        self.assertTrue(10 < sum(answers) < 50)
        web = Web([3, 2, 2], [(0, 0, 1, 0), (1, 1, 0, 1), (0, 2, 2, 0), (1, 1, 2, 1)])
        self.assertFalse(self.check_web(web))
        self.assertTrue(self.check_web(Web.empty()))

    def test_paired_webs(self):
        answers = [self.check_paired(paired) for paired in small_paired(60, 2, most_pairs=3, most_free=6)]
        self.assertTrue(10 < sum(answers) < 50)
        self.assertTrue(self.check_paired(PairedWeb(0, [])))

    def test_wirings(self):
        answers = [self.check_wiring(wiring) for wiring in small_wirings(60, 3, most_links=4, most_nodes=7)]
        self.assertTrue(10 < sum(answers) < 55)
        self.assertTrue(self.check_wiring(Wiring([(0, 1)], [])))

    def test_programs(self):
        rng = random.Random(4)
        for program in small_programs(2) + small_programs(3)[::8]:
            self.check_wiring(self.check_program(program))
        for _ in range(15):
            self.check_program(random_program(rng, rng.randint(5, 12)))
        use = parse_program("([f [x (f x)]] [y y])")
        row, links, cut = application(use[1], use[2])
        wiring = wiring_of_kinds(row, links)
        self.assertTrue(self.check_wiring(wiring))
        self.assertTrue(self.check_wiring(joined(wiring, [cut])))
        self.assertEqual([], knot(web_of_state(wiring, first_state(wiring, [cut]))))
        self.assertEqual(principal_kind(use), row[2])
        self.assertIs(True, self.check_wiring(self.check_program(use)))

    def test_kinds(self):
        one, other = parse_kind("((a & b) | (a' & c))"), parse_kind("((c & a') | (b & a))")
        self.assertTrue(alike(one, other))
        self.assertEqual(1, len(there_and_back(one, other)))
        words = []
        for kind in (other, Kind.letter("a") & ~Kind.letter("a"), parse_kind("((b | a) & (c | a'))")):
            for links, word in standings(one, kind):
                wiring = wiring_of_kinds([~one, kind], links)
                self.assertIs(self.check_wiring(wiring), word != "barred")
                self.assertIs(word == "whole", is_whole(wiring))
                self.assertIs(word == "barred", barring_cycle(one, kind, links) is not None)
                words.append(word)
            self.assertIs("whole" in [word for _, word in standings(one, kind)], can_stand_for(one, kind))
            self.assertEqual(len(all_links([~one, kind])), len(standings(one, kind)))
        self.assertEqual({"whole", "barred"}, set(words))

    def test_a_web_that_is_too_large_for_its_gadgets_is_decided_all_the_same(self):
        web = Web([4] * 21, [(place, 0, place + 1, 1) for place in range(20)])
        self.assertRaises(TooLarge, paired_of_web, web)
        self.assertEqual([], knot(web))
        self.assertIsNotNone(desk_of(web).order)


if __name__ == "__main__":
    unittest.main()
