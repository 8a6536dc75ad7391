"""Every name of the interface is defined in its own file, with its own arguments."""

import ast
import pathlib
import unittest

PACKAGE = pathlib.Path(__file__).resolve().parent.parent / "fourhinges"

# For each file its functions, and its classes with their methods; a star marks a generator.
INTERFACE = {
    "ratios": {
        "is_whole": "thing, low, high", "ratio": "top, bottom", "compare_ratios": "one, other",
        "ratio_sum": "one, other", "ratio_product": "one, other",
    },
    "forces": {
        "Force": {
            "__init__": "across, up, moment", "none": "", "hanging": "weight, x", "acting": "across, up, point",
            "about": "point", "is_none": "", "__add__": "other", "__sub__": "other", "__neg__": "",
            "__mul__": "other", "__eq__": "other",
        },
    },
    "loads": {
        "Load": {
            "__init__": "forces", "none": "stones", "single": "stones, stone, force", "before": "joint",
            "__getitem__": "at", "__len__": "", "__iter__": "", "__add__": "other", "__sub__": "other",
            "__neg__": "", "__mul__": "other", "__eq__": "other",
        },
    },
    "rings": {
        "is_point": "thing", "ring_force": "ring, density", "check_ring": "joints, stone, ring",
        "cut_ring": "ring, one, other",
    },
    "bridge": {
        "Bridge": {
            "__init__": "joints, own=None", "of_rings": "joints, rings, densities", "point": "corner",
            "total": "load=None", "with_own": "load", "moved": "across, up", "mirrored": "", "exchanged": "",
            "scaled": "times", "between": "first, last", "cut": "stone, joint, left", "__eq__": "other",
        },
    },
    "thrust": {
        "Thrust": {
            "__init__": "force, parts=1", "about": "point", "__add__": "other", "__sub__": "other", "__neg__": "",
            "__eq__": "other",
        },
        "push_at": "bridge, thrust, joint, load=None", "moment_at": "bridge, thrust, corner, load=None",
        "passes": "bridge, thrust, joint, load=None", "first_barred": "bridge, thrust, load=None",
        "touched": "bridge, thrust, load=None", "crossing": "bridge, thrust, joint, load=None",
        "thrust_line": "bridge, thrust, load=None", "mixed": "one, other, share",
    },
    "through": {"through": "bridge, corners, load=None"},
    "cords": {"cord_barred": "bridge, pull, load=None"},
    "motions": {
        "Motion": {
            "__init__": "turn, across, up", "none": "", "turning": "point, turn=1", "at": "point",
            "measure": "force", "measure_of": "thrust", "is_none": "", "__add__": "other", "__sub__": "other",
            "__neg__": "", "__mul__": "other", "__eq__": "other",
        },
    },
    "weights": {
        "Weights": {
            "__init__": "numbers", "hinges": "", "lowest": "", "__getitem__": "at", "__len__": "", "__iter__": "",
            "__add__": "other", "__mul__": "other", "__eq__": "other",
        },
        "motion_of": "bridge, weights", "stone_motions": "bridge, weights",
        "work": "bridge, weights, load=None", "extra_work": "bridge, weights, load",
    },
    "mechanisms": {
        "*mechanisms": "bridge", "mechanism_on": "bridge, corners", "is_mechanism": "bridge, weights",
        "heaviest_work": "bridge, load=None",
    },
    "parting": {"parted": "bridge, weights"},
    "supports": {"*supports": "bridge, motion"},
    "stands": {
        "Stands": {"__init__": "thrust"}, "Falls": {"__init__": "mechanism, work"},
        "stands": "bridge, load=None", "bears": "bridge, load=None", "stand_fault": "bridge, answer, load=None",
    },
    "greatest": {
        "Greatest": {"__init__": "amount, thrust, weights, parts"}, "Endless": {"__init__": "force"},
        "greatest": "bridge, motion, load=None", "greatest_fault": "bridge, motion, answer, load=None",
    },
    "linear": {
        "Implied": {"__init__": "amounts, parts"}, "Parted": {"__init__": "mix"},
        "implied": "row, rows", "implied_fault": "row, rows, answer",
    },
    "palettes": {
        "FactorRange": {"__init__": "low, high, low_by, high_by"}, "Excess": {"__init__": "mechanism, mix, work"},
        "mix_load": "palette, mix", "wheel_palette": "bridge, borders", "work_row": "bridge, weights, palette",
        "work_rows": "bridge, palette", "bears_mix": "bridge, palette, mix", "factor_range": "bridge, load",
        "first_excess": "bridge, palette, lows, highs",
    },
    "needed": {
        "Needed": {"__init__": "kept, dropped"}, "BearsAll": {"__init__": "papers"},
        "PartedBy": {"__init__": "mechanism, mix"}, "needed": "bridge, palette",
        "compare_bridges": "one, other, one_palette, other_palette",
    },
    "carts": {
        "Cart": {
            "__init__": "name, wheels, length", "total_weight": "", "scaled": "times", "weighted": "times",
            "__eq__": "other",
        },
    },
    "rules": {
        "Rule": {
            "__init__": "carts, steps, way=1", "reachable": "", "cart": "name", "step": "room, name", "only": "names",
            "weighted": "times", "scaled": "times", "spaced": "extra", "turned": "", "__eq__": "other",
        },
        "row_fault": "rule, row", "row_beyond": "one, other",
    },
    "road": {
        "Road": {
            "__init__": "borders, rules", "names": "", "rule": "lane", "only": "names", "weighted": "times",
            "spaced": "extra", "scaled": "times", "mirrored": "", "stones_at": "x", "__eq__": "other",
        },
        "*rows_up_to": "road, lane, most",
    },
    "scenes": {
        "Scene": {"__init__": "rows, stones", "standing": "road, rows", "__eq__": "other"},
        "scene_fault": "road, scene", "scene_load": "road, scene",
    },
    "workline": {
        "WorkLine": {
            "__init__": "bridge, road, weights", "__call__": "x", "best_stone": "x", "ends": "stone",
            "cart_work": "cart, front, way",
        },
    },
    "heaviest": {
        "Heaviest": {"__init__": "amount, row, stones"}, "heaviest": "bridge, road, lane, weights",
        "potentials": "bridge, road, lane, weights", "potentials_fault": "bridge, road, lane, weights, table",
        "table_most": "table",
    },
    "traffic": {
        "Safe": {"__init__": "papers"}, "Unsafe": {"__init__": "mechanism, work, scene"},
        "verdict": "bridge, road", "is_safe": "bridge, road", "factor": "bridge, road", "permits": "bridge, road",
        "least_extra_gap": "bridge, road",
    },
    "trafficjudge": {"verdict_fault": "bridge, road, answer"},
    "limits": {
        "Limit": {"__init__": "motion, most", "__eq__": "other"},
        "LimitedFalls": {"__init__": "weights, shares, work"}, "kept": "limits, thrust",
        "*limited_mechanisms": "bridge, limits", "limited_stands": "bridge, limits, load=None",
    },
    "limitedtraffic": {
        "LimitedSafe": {"__init__": "papers"}, "LimitedUnsafe": {"__init__": "weights, shares, work, scene"},
        "limited_verdict": "bridge, road, limits", "limited_fault": "bridge, road, limits, answer",
    },
    "sure": {
        "Sure": {"__init__": "amount, weights, parts, scene"},
        "FixedRange": {"__init__": "low, high", "fits": "number", "is_empty": ""},
        "sure": "bridge, road, motion", "fixed_range": "bridge, road, motion",
    },
    "cracks": {
        "Following": {"__init__": "thrust, weights, parts, motions"}, "follow": "bridge, motion, load=None",
        "open_together": "bridge, corners, load=None", "open_sets": "bridge, load=None",
    },
    "yard": {"Yard": {"__init__": "bridge, borders, hoist=None"}, "spans": "yard, stage"},
    "stages": {
        "StageFall": {"__init__": "first, last, weights, work, front, stones"}, "stage_fall": "yard, stage",
        "stage_fall_fault": "yard, stage, fall", "*stage_steps": "yard, stage, most",
    },
    "orders": {
        "Order": {"__init__": "steps"}, "ClosedLot": {"__init__": "stages"}, "build_order": "yard, most",
        "order_fault": "yard, most, answer", "fewest_frames": "yard",
    },
    "changes": {
        "Change": {"applied": "bridge, road", "__eq__": "other"},
        "Ballast": {"__init__": "stone, x, weight", "applied": "bridge, road", "__eq__": "other"},
        "Rod": {"__init__": "one, other, start, end, pull", "applied": "bridge, road", "__eq__": "other"},
        "Shut": {"__init__": "name", "applied": "bridge, road", "__eq__": "other"},
        "Spaced": {"__init__": "extra", "applied": "bridge, road", "__eq__": "other"},
        "changed": "bridge, road, changes",
    },
    "mends": {
        "Mend": {"__init__": "indexes, breaches"}, "least_mends": "bridge, road, pool",
        "mends_fault": "bridge, road, pool, mends",
    },
    "book": {
        "Book": {
            "__init__": "bridge, road", "days": "", "put": "change", "take": "number", "now": "", "answer": "",
            "close_day": "", "trial": "", "__iter__": "", "__len__": "",
        },
        "tried": "book, changes", "in_trial": "book, task",
    },
    "bridgetext": {"bridge_text": "bridge", "read_bridge": "text", "work_table": "bridge, load=None"},
    "roadtext": {"road_text": "road", "read_road": "text"},
    "relief": {
        "Relief": {"__init__": "mix, parts"}, "NoRelief": {"__init__": "shares"},
        "relief": "bridge, palette, highs", "relief_fault": "bridge, palette, highs, answer",
    },
}


def definitions(body):
    return {item.name: item for item in body if isinstance(item, (ast.FunctionDef, ast.ClassDef))}


def arguments_of(function, is_method):
    names = [argument.arg for argument in function.args.args]
    defaults = [ast.unparse(default) for default in function.args.defaults]
    for back, default in enumerate(reversed(defaults), 1):
        names[-back] = f"{names[-back]}={default}"
    return ", ".join(names[1:] if is_method else names)


def is_generator(function):
    return any(isinstance(node, (ast.Yield, ast.YieldFrom)) for node in ast.walk(function))


class InterfaceTest(unittest.TestCase):
    def test_everything_is_defined_in_its_file(self):
        for name, wanted in INTERFACE.items():
            found = definitions(ast.parse((PACKAGE / f"{name}.py").read_text()).body)
            for thing, arguments in wanted.items():
                with self.subTest(f"{name}.{thing}"):
                    self.check_thing(found[thing.lstrip("*")], thing, arguments)

    def check_thing(self, found, thing, arguments):
        if isinstance(arguments, str):
            self.assertEqual(arguments_of(found, False), arguments)
            self.assertEqual(is_generator(found), thing.startswith("*"))
            return
        methods = definitions(found.body)
        for method, its_arguments in arguments.items():
            with self.subTest(method):
                self.assertEqual(arguments_of(methods[method], True), its_arguments)
