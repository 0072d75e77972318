"""The interface: each name stands, with its arguments, in the file under which the document lists it."""

import importlib
import inspect
import os
import unittest

FUNCTIONS = {
    "groups": ["grouped(points, ties)"],
    "paths": ["turns(web, before, after)", "reversed_steps(steps)", "walk_places(web, start, steps)",
              "is_path(web, start, steps)", "is_turning_path(web, start, steps)"],
    "cycles": ["cycle_places(web, steps)", "cusps(web, steps)", "is_turning_cycle(web, steps)", "normal_cycle(steps)"],
    "webtext": ["format_web(web)", "parse_web(text)"],
    "reshape": ["renumbered(web, *, places=None, ties=None)", "restricted(web, kept)", "detached(web, place)",
                "leafed(web)", "web_parts(web)"],
    "listing": ["end_counts(web)", "side_table(web)"],
    "followers": ["followers(web, step)", "walks(web, first, length)", "reached(web, first)",
                  "shortest_walk(web, first, last)"],
    "rings": ["is_ring(web, steps)", "find_ring(web)", "heights(web)"],
    "facings": ["is_facing(web, directions)", "facing(web)", "tie_groups(web)", "count_facings(web)",
                "cycle_in_ring(web, ring)"],
    "zigzags": ["neighbours(web, end)", "is_zigzag(web, ends)", "zigzag(web)"],
    "hinges": ["groups_without(web, shut, place)", "touched_sides(web, group, place)", "is_hinge(web, shut, place)",
               "hinges(web, shut)"],
    "openings": ["opening_order(web)", "knot(web)", "fault_in_order(web, order)", "waves(web)", "openings(web)"],
    "orders": ["must_precede(web, first, second)", "forerunners(web, place)", "openable_sets(web)",
               "count_orders(web)"],
    "search": ["turning_cycles(web)", "cycle_by_dropping(web)", "verdict(web)"],
    "pairings": ["pairings(points, ties)", "is_pairing(points, ties, chosen)", "tie_uses(paired)"],
    "alternating": ["web_of_pairs(paired)", "alternating_cycles(paired)", "changed_along(chosen, steps)",
                    "parting_cycles(paired, chosen)"],
    "bridges": ["is_bridge(paired, taken, pair)", "bridge_order(paired)", "core(paired)", "is_only_pairing(paired)",
                "fault_in_bridges(paired, order)", "bridges_of_openings(paired, order)",
                "openings_of_bridges(paired, order)"],
    "gadgets": ["paired_of_web(web)", "point_at(web, place, side)", "pair_at(web, place)", "lead_in(web, steps)",
                "lead_out(web, steps)"],
    "greatest": ["greatest_pairing(points, ties)"],
    "barriers": ["odd_pieces(points, ties)", "barrier(points, ties)", "bars(points, ties, removed)"],
    "detours": ["is_strict_path(paired, first, last, steps)", "strict_path(paired, first, last)",
                "strict_paths(paired, first, last)", "pairings_without(paired, first, last)",
                "path_of_pairing(paired, first, last, chosen)"],
    "through": ["place_graph(web, place)", "tie_graph(web, tie)", "cycle_through_place(web, place)",
                "cycle_through_tie(web, tie)", "on_cycles(web)"],
    "pfaffians": ["entry(paired, i, j)", "crossing_sign(ties)", "pfaffian(paired, points)",
                  "pairing_sum(paired, points)", "determinant(paired, points)"],
    "sinking": ["sinking_weights(paired)"],
    "inverses": ["inverse_entry(paired, i, j)", "never_zero(paired, i, j)", "path_products(paired, i, j)"],
    "pivots": ["pivot(paired, before, pair)", "is_kept(paired, before, pair)", "touching_order(paired)",
               "worked_off(paired, weights, order)"],
    "wiringwebs": ["web_of_wiring(wiring)", "place_of(wiring, term)", "is_sound(wiring)", "is_whole(wiring)"],
    "settings": ["settings(wiring)", "kept_ties(wiring, setting)", "groups_under(wiring, setting)",
                 "ring_under(wiring, setting)", "setting_of(wiring, steps)"],
    "derivations": ["fault_in_derivation(wiring, steps)", "find_derivation(wiring)", "opening_of(wiring, steps)"],
    "exchanges": ["exchanges(first, second)", "node_orders(wiring)"],
    "moves": ["both_pairs(wiring)", "heap_pairs(links)", "moved(leaves, pairs, move)", "moves_of(wiring, steps)",
              "wiring_of_pairs(links, pairs)"],
    "wiringtext": ["format_wiring(wiring)", "parse_wiring(text)"],
    "joining": ["are_opposite(wiring, one, other)", "first_state(wiring, cuts)", "is_locked(state, cut)",
                "open_cuts(state)", "next_state(wiring, state, cut)", "last_state(wiring, cuts, picks)",
                "joined(wiring, cuts)", "web_of_state(wiring, state)"],
    "trails": ["opposite_leaf(wiring, cuts, leaf)", "trail(wiring, cuts, leaf)", "trail_links(wiring, cuts)",
               "closed_trails(wiring, cuts)"],
    "statuses": ["statuses(wiring, signs)", "roots_agree(wiring, signs)", "parting_signs(wiring)",
                 "signs_of(wiring, likeness, choice, other)", "agree(wiring, likeness, choice, other)"],
    "parting": ["shortened(wiring, steps)", "signs_of_cycle(wiring, steps)", "parting_choices(wiring)",
                "results(wiring, size)"],
    "kinds": ["is_arrow(kind)", "alike(one, other)"],
    "kindtext": ["format_kind(kind)", "parse_kind(text)"],
    "standing": ["wiring_of_kinds(kinds, links)", "all_links(kinds)", "standings(one, other)",
                 "barring_cycle(one, other, links)", "can_stand_for(one, other, *, beside=False)", "plain_links(kind)",
                 "composed(one, middle, other, there, onward)", "there_and_back(one, other)"],
    "programs": ["check_program(program)", "format_program(program)", "parse_program(text)", "redexes(program)",
                 "step_at(program, position)", "worked(program, picks)", "plainly_named(program)"],
    "principal": ["principal_kind(program)"],
    "programwirings": ["forced_links(kind)", "program_of_kind(kind)", "application(function, argument)"],
    "reports": ["desk_table(desk)"],
}

CLASSES = {
    "webs": {"Web(sides, ties)": ["__contains__(self, place)", "__iter__(self)", "__eq__(self, other)",
                                  "__add__(self, other)", "tail(self, step)", "head(self, step)",
                                  "steps_from(self, place)", "used_sides(self, place)"]},
    "pairedwebs": {"PairedWeb(pairs, free)": ["__contains__(self, point)", "__eq__(self, other)"]},
    "wirings": {"Wiring(links, nodes)": ["__contains__(self, term)", "__eq__(self, other)", "parent(self, term)",
                                         "leaves_under(self, term)", "link_of(self, leaf)", "mate(self, leaf)"]},
    "sums": {"Sum(products)": ["__add__(self, other)", "__sub__(self, other)", "__mul__(self, other)",
                               "__rmul__(self, other)", "__neg__(self)", "__eq__(self, other)", "__bool__(self)",
                               "value(self, numbers)", "used(self)", "put(self, tie, number)", "divided(self, tie)"]},
    "likeness": {"Likeness(size, like)": ["__call__(self, one, other)", "__invert__(self)", "__eq__(self, other)"]},
    "kinds": {"Kind(shape)": ["__invert__(self)", "__and__(self, other)", "__or__(self, other)",
                              "__rshift__(self, other)", "__eq__(self, other)"]},
    "desk": {"Desk()": ["add_place(self, name, sides=2)", "add_tie(self, name, one, side, other, far_side)",
                        "cut_tie(self, name)", "remove_place(self, name)", "undo(self)", "redo(self)",
                        "obey(self, line, number=1)", "obey_all(self, lines)", "fault(self, names)", "verdict(self)"],
             "Batch(desk)": ["__enter__(self)", "__exit__(self, kind, value, trace)"]},
}

MARKED = {
    "webs.Web": {"joints": property, "empty": classmethod, "back": staticmethod},
    "pairedwebs.PairedWeb": {"points": property, "all_ties": property, "partner": staticmethod},
    "wirings.Wiring": {"leaves": property, "terms": property, "boths": property, "roots": property},
    "sums.Sum": {"products": property, "number": classmethod, "weight": classmethod},
    "likeness.Likeness": {"like_pairs": property, "three": classmethod},
    "kinds.Kind": {"letters": property, "letter": classmethod},
    "desk.Desk": {"replay": classmethod, "web": property, "place_names": property, "tie_names": property,
                  "order": property, "renewed": property, "journal": property},
}

VALUES = {
    "webs.Web": {"MOST_PLACES": 200, "MOST_TIES": 300, "MOST_SIDES": 4},
    "pairedwebs.PairedWeb": {"MOST_PAIRS": 100, "MOST_FREE": 200},
    "wirings.Wiring": {"MOST_LINKS": 40},
    "likeness.Likeness": {"MOST_POINTS": 8},
    "kinds.Kind": {"MOST_LETTERS": 40},
}

ERRORS = {
    "errors": ["TooLarge", "BadLine", "UnknownPlace", "BadSides", "UnknownTie", "BadStep", "Repeated", "UnknownPoint",
               "UnknownPair", "SamePoint", "BadLink", "BadNode", "UnknownTerm", "UnknownSide", "NotATurningCycle",
               "NoLinks"],
    "reshape": ["NotAPermutation"],
    "facings": ["NoFacing", "NotARing"],
    "hinges": ["NotAJoint", "NotShut"],
    "orders": ["NeverOpened"],
    "alternating": ["NotAPairing"],
    "settings": ["BadSetting"],
    "exchanges": ["NotSameSteps"],
    "moves": ["BadMove", "NoTerm"],
    "joining": ["BadCut", "Locked", "NoSuchCut", "Nothing"],
    "trails": ["NotOuter"],
    "statuses": ["BadSigns", "BadChoice"],
    "kinds": ["BadName"],
    "kindtext": ["BadSign"],
    "programs": ["BoundTwice", "UnknownName", "UsedTwice", "NotUsed", "NotARedex"],
    "programwirings": ["NotBalanced", "NotAnArrow"],
    "editions": ["BadLabel", "NameTaken", "NoSuchName", "StillTied"],
    "desk": ["NothingToUndo", "NothingToRedo"],
}

# The fields of the errors that are not in errors.py; all others have none.
FIELDS = {
    "NotAJoint": "place", "NotShut": "place", "NeverOpened": "place", "BadCut": "cut", "Locked": "cut",
    "BadName": "name",
    "BadSign": "sign", "BoundTwice": "name", "UnknownName": "name", "UsedTwice": "name", "NotUsed": "name",
    "NotARedex": "position", "BadLabel": "name", "NameTaken": "name", "NoSuchName": "name", "StillTied": "name",
}

GENERATORS = {"followers": "walks", "openings": "openings", "settings": "settings"}


def module(name):
    return importlib.import_module("comesapart." + name)


class InterfaceTests(unittest.TestCase):
    def check(self, owner, home, signature):
        name = signature.split("(")[0]
        found = vars(owner)[name]
        self.assertEqual(home, found.__module__)
        self.assertEqual(signature, name + str(inspect.signature(found)))

    def test_functions(self):
        for name, signatures in FUNCTIONS.items():
            for signature in signatures:
                self.check(module(name), "comesapart." + name, signature)

    def test_classes_and_methods(self):
        for name, classes in CLASSES.items():
            for signature, methods in classes.items():
                self.check(module(name), "comesapart." + name, signature)
                for method in methods:
                    self.check(vars(module(name))[signature.split("(")[0]], "comesapart." + name, method)

    def test_marked_methods(self):
        for path, methods in MARKED.items():
            home, name = path.split(".")
            for method, kind in methods.items():
                self.assertIsInstance(vars(vars(module(home))[name])[method], kind)

    def test_class_values(self):
        for path, values in VALUES.items():
            home, name = path.split(".")
            for value_name, value in values.items():
                self.assertEqual(value, vars(vars(module(home))[name])[value_name])

    def test_generators(self):
        for name, function in GENERATORS.items():
            self.assertTrue(inspect.isgeneratorfunction(vars(module(name))[function]))

    def test_errors(self):
        base = module("errors").ComesapartError
        for name, error_names in ERRORS.items():
            for error_name in error_names:
                error_class = vars(module(name))[error_name]
                self.assertEqual("comesapart." + name, error_class.__module__)
                self.assertEqual((base,), error_class.__bases__)

    def test_fields_of_errors(self):
        for name, error_names in ERRORS.items():
            for error_name in error_names:
                error_class = vars(module(name))[error_name]
                if name != "errors" and error_name in FIELDS:
                    field = FIELDS[error_name]
                    self.assertEqual({field: "value"}, vars(error_class("value")))
                    self.assertEqual({field: (1, 2)}, vars(error_class(**{field: (1, 2)})))
                elif name != "errors":
                    self.assertEqual({}, vars(error_class()))

    def test_no_error_is_left_out(self):
        base = module("errors").ComesapartError
        for path in os.listdir(os.path.dirname(module("errors").__file__)):
            name = path[:-3]
            if path.endswith(".py") and name != "__init__":
                own = [key for key, value in vars(module(name)).items() if isinstance(value, type)
                       and issubclass(value, base) and value is not base and value.__module__ == "comesapart." + name]
                self.assertEqual(sorted(own), sorted(ERRORS.get(name, [])), name)


if __name__ == "__main__":
    unittest.main()
