import inspect
import unittest

from fourhinges import errors

ATTRIBUTES = {
    "BadRatio": (), "BadForce": ("what",), "BadLoad": ("what",), "OtherSize": (), "NoStone": ("stone",),
    "NoJoint": ("joint",), "NoCorner": ("corner",), "BadBridge": ("what", "joint"), "NoPart": ("first", "last"),
    "BadRing": ("what", "stone"), "BadCut": ("one", "other"), "BadThrust": (), "BadCorners": (),
    "InLine": ("corners",), "BadMotion": (), "BadWeights": ("what",), "Unbalanced": (),
    "NotStanding": ("mechanism",), "BadPalette": ("what",), "BadMix": (), "BadRows": (), "BadCart": ("what",),
    "BadRule": ("what", "index"), "NoCart": ("name",), "BadRoad": ("what",), "NoLane": ("lane",),
    "BadLimit": ("what",), "NotSafe": ("mechanism",), "BadYard": ("what",), "BadStage": (),
    "BadChange": ("what",), "NoChange": ("number",), "BadRow": ("row", "what"),
}


class ErrorsTest(unittest.TestCase):
    def test_base(self):
        self.assertEqual(errors.BridgeError.__bases__, (ValueError,))
        self.assertIn("__init__", vars(errors.BridgeError))
        self.assertEqual(vars(errors.BridgeError()), {})

    def test_every_error_is_directly_under_the_base(self):
        for name in ATTRIBUTES:
            with self.subTest(name):
                self.assertEqual(getattr(errors, name).__bases__, (errors.BridgeError,))

    def test_no_other_class(self):
        found = {name for name, thing in vars(errors).items() if inspect.isclass(thing)}
        self.assertEqual(found, set(ATTRIBUTES) | {"BridgeError"})

    def test_own_init_with_these_names(self):
        for name, attributes in ATTRIBUTES.items():
            with self.subTest(name):
                self.assertIn("__init__", vars(getattr(errors, name)))
                self.assertEqual(tuple(inspect.signature(getattr(errors, name)).parameters), attributes)

    def test_by_position_and_by_keyword(self):
        for name, attributes in ATTRIBUTES.items():
            kept = {attribute: [attribute] for attribute in attributes}
            with self.subTest(name):
                by_position = getattr(errors, name)(*kept.values())
                by_keyword = getattr(errors, name)(**kept)
                for attribute, thing in kept.items():
                    self.assertIs(getattr(by_position, attribute), thing)
                    self.assertIs(getattr(by_keyword, attribute), thing)
                self.assertEqual(vars(by_position), kept)

    def test_wrong_number_of_arguments(self):
        for name, attributes in ATTRIBUTES.items():
            with self.subTest(name), self.assertRaises(TypeError):
                getattr(errors, name)(*attributes, "more")
