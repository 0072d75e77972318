"""The interface: each name stands, with its arguments, in the file under which the document lists it."""

import importlib
import inspect
import unittest

FUNCTIONS = {
    "groups": ["grouped(points, ties)"],
    "paths": ["turns(web, before, after)", "reversed_steps(steps)", "walk_places(web, start, steps)",
              "is_path(web, start, steps)", "is_turning_path(web, start, steps)"],
    "cycles": ["cycle_places(web, steps)", "cusps(web, steps)", "is_turning_cycle(web, steps)", "normal_cycle(steps)"],
    "webtext": ["format_web(web)", "parse_web(text)"],
    "reshape": ["renumbered(web, *, places=None, ties=None)", "restricted(web, kept)", "detached(web, place)",
                "leafed(web)", "web_parts(web)"],
    "listing": ["end_counts(web)", "side_table(web)"],
    "followers": ["followers(web, step)", "walks(web, first, length)", "reached(web, first)",
                  "shortest_walk(web, first, last)"],
    "rings": ["is_ring(web, steps)", "find_ring(web)", "heights(web)"],
    "facings": ["is_facing(web, directions)", "facing(web)", "tie_groups(web)", "count_facings(web)",
                "cycle_in_ring(web, ring)"],
    "zigzags": ["neighbours(web, end)", "is_zigzag(web, ends)", "zigzag(web)"],
    "hinges": ["groups_without(web, shut, place)", "touched_sides(web, group, place)", "is_hinge(web, shut, place)",
               "hinges(web, shut)"],
    "openings": ["opening_order(web)", "knot(web)", "fault_in_order(web, order)", "waves(web)", "openings(web)"],
    "orders": ["must_precede(web, first, second)", "forerunners(web, place)", "openable_sets(web)",
               "count_orders(web)"],
    "search": ["turning_cycles(web)", "cycle_by_dropping(web)", "verdict(web)"],
    "pairings": ["pairings(points, ties)", "is_pairing(points, ties, chosen)", "tie_uses(paired)"],
    "alternating": ["web_of_pairs(paired)", "alternating_cycles(paired)", "changed_along(chosen, steps)",
                    "parting_cycles(paired, chosen)"],
    "bridges": ["is_bridge(paired, taken, pair)", "bridge_order(paired)", "core(paired)", "is_only_pairing(paired)",
                "fault_in_bridges(paired, order)", "bridges_of_openings(paired, order)",
                "openings_of_bridges(paired, order)"],
    "gadgets": ["paired_of_web(web)", "point_at(web, place, side)", "pair_at(web, place)", "lead_in(web, steps)",
                "lead_out(web, steps)"],
    "greatest": ["greatest_pairing(points, ties)"],
    "barriers": ["odd_pieces(points, ties)", "barrier(points, ties)", "bars(points, ties, removed)"],
    "detours": ["is_strict_path(paired, first, last, steps)", "strict_path(paired, first, last)",
                "strict_paths(paired, first, last)", "pairings_without(paired, first, last)",
                "path_of_pairing(paired, first, last, chosen)"],
    "through": ["place_graph(web, place)", "tie_graph(web, tie)", "cycle_through_place(web, place)",
                "cycle_through_tie(web, tie)", "on_cycles(web)"],
    "pfaffians": ["entry(paired, i, j)", "crossing_sign(ties)", "pfaffian(paired, points)",
                  "pairing_sum(paired, points)", "determinant(paired, points)"],
    "sinking": ["sinking_weights(paired)"],
    "inverses": ["inverse_entry(paired, i, j)", "never_zero(paired, i, j)", "path_products(paired, i, j)"],
    "pivots": ["pivot(paired, before, pair)", "is_kept(paired, before, pair)", "touching_order(paired)",
               "worked_off(paired, weights, order)"],
    "wiringwebs": ["web_of_wiring(wiring)", "place_of(wiring, term)", "is_sound(wiring)", "is_whole(wiring)"],
    "settings": ["settings(wiring)", "kept_ties(wiring, setting)", "groups_under(wiring, setting)",
                 "ring_under(wiring, setting)", "setting_of(wiring, steps)"],
    "derivations": ["fault_in_derivation(wiring, steps)", "find_derivation(wiring)", "opening_of(wiring, steps)"],
    "exchanges": ["exchanges(first, second)", "node_orders(wiring)"],
    "moves": ["both_pairs(wiring)", "heap_pairs(links)", "moved(leaves, pairs, move)", "moves_of(wiring, steps)",
              "wiring_of_pairs(links, pairs)"],
    "wiringtext": ["format_wiring(wiring)", "parse_wiring(text)"],
    "joining": ["are_opposite(wiring, one, other)", "first_state(wiring, cuts)", "is_locked(state, cut)",
                "open_cuts(state)", "next_state(wiring, state, cut)", "last_state(wiring, cuts, picks)",
                "joined(wiring, cuts)", "web_of_state(wiring, state)"],
    "trails": ["opposite_leaf(wiring, cuts, leaf)", "trail(wiring, cuts, leaf)", "trail_links(wiring, cuts)",
               "closed_trails(wiring, cuts)"],
    "statuses": ["statuses(wiring, signs)", "roots_agree(wiring, signs)", "parting_signs(wiring)",
                 "signs_of(wiring, likeness, choice, other)", "agree(wiring, likeness, choice, other)"],
    "parting": ["shortened(wiring, steps)", "signs_of_cycle(wiring, steps)", "parting_choices(wiring)",
                "results(wiring, size)"],
}

CLASSES = {
    "webs": {"Web(sides, ties)": ["__contains__(self, place)", "__iter__(self)", "__eq__(self, other)",
                                  "__add__(self, other)", "tail(self, step)", "head(self, step)",
                                  "steps_from(self, place)", "used_sides(self, place)"]},
    "pairedwebs": {"PairedWeb(pairs, free)": ["__contains__(self, point)", "__eq__(self, other)"]},
    "wirings": {"Wiring(links, nodes)": ["__contains__(self, term)", "__eq__(self, other)", "parent(self, term)",
                                         "leaves_under(self, term)", "link_of(self, leaf)", "mate(self, leaf)"]},
    "sums": {"Sum(products)": ["__add__(self, other)", "__sub__(self, other)", "__mul__(self, other)",
                               "__rmul__(self, other)", "__neg__(self)", "__eq__(self, other)", "__bool__(self)",
                               "value(self, numbers)", "used(self)", "put(self, tie, number)", "divided(self, tie)"]},
    "likeness": {"Likeness(size, like)": ["__call__(self, one, other)", "__invert__(self)", "__eq__(self, other)"]},
}

MARKED = {
    "webs.Web": {"joints": property, "empty": classmethod, "back": staticmethod},
    "pairedwebs.PairedWeb": {"points": property, "all_ties": property, "partner": staticmethod},
    "wirings.Wiring": {"leaves": property, "terms": property, "boths": property, "roots": property},
    "sums.Sum": {"products": property, "number": classmethod, "weight": classmethod},
    "likeness.Likeness": {"like_pairs": property, "three": classmethod},
}

ERRORS = {
    "errors": ["TooLarge", "BadLine", "UnknownPlace", "BadSides", "UnknownTie", "BadStep", "Repeated", "UnknownPoint",
               "UnknownPair", "SamePoint", "BadLink", "BadNode", "UnknownTerm", "UnknownSide", "NotATurningCycle",
               "NoLinks"],
    "reshape": ["NotAPermutation"],
    "facings": ["NoFacing", "NotARing"],
    "hinges": ["NotAJoint", "NotShut"],
    "orders": ["NeverOpened"],
    "alternating": ["NotAPairing"],
    "settings": ["BadSetting"],
    "exchanges": ["NotSameSteps"],
    "moves": ["BadMove", "NoTerm"],
    "joining": ["BadCut", "Locked", "NoSuchCut", "Nothing"],
    "trails": ["NotOuter"],
    "statuses": ["BadSigns", "BadChoice"],
}

GENERATORS = {"followers": "walks", "openings": "openings", "settings": "settings"}


def module(name):
    return importlib.import_module("comesapart." + name)


class InterfaceTests(unittest.TestCase):
    def check(self, owner, home, signature):
        name = signature.split("(")[0]
        found = vars(owner)[name]
        self.assertEqual(home, found.__module__)
        self.assertEqual(signature, name + str(inspect.signature(found)))

    def test_functions(self):
        for name, signatures in FUNCTIONS.items():
            for signature in signatures:
                self.check(module(name), "comesapart." + name, signature)

    def test_classes_and_methods(self):
        for name, classes in CLASSES.items():
            for signature, methods in classes.items():
                self.check(module(name), "comesapart." + name, signature)
                for method in methods:
                    self.check(vars(module(name))[signature.split("(")[0]], "comesapart." + name, method)

    def test_marked_methods(self):
        for path, methods in MARKED.items():
            home, name = path.split(".")
            for method, kind in methods.items():
                self.assertIsInstance(vars(vars(module(home))[name])[method], kind)

    def test_generators(self):
        for name, function in GENERATORS.items():
            self.assertTrue(inspect.isgeneratorfunction(vars(module(name))[function]))

    def test_errors(self):
        base = module("errors").ComesapartError
        for name, error_names in ERRORS.items():
            for error_name in error_names:
                error_class = vars(module(name))[error_name]
                self.assertEqual("comesapart." + name, error_class.__module__)
                self.assertEqual((base,), error_class.__bases__)


if __name__ == "__main__":
    unittest.main()
