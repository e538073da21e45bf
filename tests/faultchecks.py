"""What the tests of first wrong signs ask of each text, of sources and of programs alike."""

import unittest


def place_of(text, many):
    """The place of the sign behind the first so many."""
    begun = text[:many].split("\n")
    return (len(begun), len(begun[-1]) + 1)


def begun_of(text, place):
    """How many signs stand ahead of a place, None if none of the text stands there."""
    lines = text.split("\n")
    ahead = sum(len(line) + 1 for line in lines[:place[0] - 1]) + place[1] - 1
    return ahead if ahead < len(text) else None


class FaultChecks(unittest.TestCase):
    """A class below has fault_of and goes_on_of of the package, and is_text and ends of oracles.py."""

    def check(self, text):
        """Just one of a fault on a sign and a text that goes on is there, and both are right."""
        fault = self.fault_of(text)
        on = self.goes_on_of(text)
        self.assertEqual(fault is None, self.is_text(text), text)
        if on is not None:
            self.assertTrue(on.startswith(text) and self.is_text(on), (text, on))
            self.assertIsNone(self.fault_of(on))
            self.assertEqual(self.goes_on_of(text), on)
            self.assertIn(fault, (None, place_of(text, len(text))))
            return
        many = begun_of(text, fault)
        self.assertIsNotNone(many, (text, fault))
        self.assertEqual(place_of(text, many), fault)
        self.assertIsNotNone(self.goes_on_of(text[:many]), (text, fault))
        self.assertIsNone(self.goes_on_of(text[:many + 1]), (text, fault))
        for end in self.ends(text[:many + 1]):
            self.assertFalse(self.is_text(text[:many + 1] + end), (text, end))

    def check_all_near(self, text, signs):
        """All cuts, and one sign less, more, or otherwise, at each place."""
        for at in range(len(text) + 1):
            self.check(text[:at])
            self.check(text[:at] + text[at + 1:])
            for sign in signs:
                self.check(text[:at] + sign + text[at:])
                self.check(text[:at] + sign + text[at + 1:])
