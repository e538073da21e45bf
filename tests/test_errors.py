"""[4]: the errors of the interface."""

import unittest

from twoslots import errors
from twoslots.errors import SlotError

WITH_THING = """BadBegun BadBox BadCells BadChain BadCount BadDeed BadLine BadMany BadNumber BadOrder BadPlace
BadPlan BadProgram BadQuestion BadSession BadSource BadTeller NoCell NoCount NoLine NoThing NoTold""".split()
WITH_INDEX = """BadHeld BadHours BadLines BadListing BadPairs BadReads BadRow BadRows BadSeen BadSome BadSpots
BadTells NoText""".split()
PARAMETERS = {
    "BadText": ["line", "sign"],
    "InUse": ["question"],
    "IsWatched": ["question"],
    "NoHour": ["hour"],
    "NoSpot": ["hour", "slot"],
    "NotSound": ["fault"],
    "NotWatched": ["question"],
    "WouldChange": ["question", "why"],
}
PARAMETERS.update({name: ["thing"] for name in WITH_THING})
PARAMETERS.update({name: ["index"] for name in WITH_INDEX})


class Errors(unittest.TestCase):
    def test_all_are_there(self):
        self.assertEqual(len(PARAMETERS), 43)
        there = [name for name, thing in vars(errors).items() if isinstance(thing, type)]
        self.assertEqual(sorted(there), sorted(list(PARAMETERS) + ["SlotError"]))

    def test_each_is_a_class_right_beneath_slot_error(self):
        self.assertEqual(SlotError.__bases__, (ValueError,))
        for name in PARAMETERS:
            self.assertEqual(getattr(errors, name).__bases__, (SlotError,), name)
            self.assertEqual(getattr(errors, name).__name__, name)

    def test_objects_are_kept_by_place_and_by_name(self):
        for name, parameters in PARAMETERS.items():
            things = [[object()] for _ in parameters]
            by_place = getattr(errors, name)(*things)
            by_name = getattr(errors, name)(**dict(zip(parameters, things)))
            for made in (by_place, by_name):
                for parameter, thing in zip(parameters, things):
                    self.assertIs(getattr(made, parameter), thing, name)

    def test_other_numbers_of_parameters_are_refused(self):
        for name, parameters in PARAMETERS.items():
            with self.assertRaises(TypeError):
                getattr(errors, name)()
            with self.assertRaises(TypeError):
                getattr(errors, name)(*([0] * (len(parameters) + 1)))

    def test_they_can_be_raised_and_shown(self):
        deep = ()
        for _ in range(3000):
            deep = (deep,)
        for name, parameters in PARAMETERS.items():
            with self.assertRaises(SlotError) as caught:
                raise getattr(errors, name)(*([deep] * len(parameters)))
            self.assertNotEqual(str(caught.exception), "")

    def test_slot_error_can_be_made(self):
        self.assertIsInstance(SlotError(), ValueError)
        with self.assertRaises(ValueError):
            raise SlotError()


if __name__ == "__main__":
    unittest.main()
