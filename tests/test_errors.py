"""Tests of markedpair.errors."""

import unittest

from markedpair import errors
from markedpair.errors import LinkError
from tests.support import ANY

PARAMETERS = {
    "BadDeed": ["part"], "BadRow": ["part"], "BadEnd": ["part"], "BadChannel": ["part"], "BadLink": ["part"],
    "BadStep": ["part"], "BadRun": ["part"], "BadPicture": ["part"], "BadCount": ["value"], "BadLog": ["at"],
    "BadBench": ["part"], "BadText": ["line", "word"], "BadCommand": ["word"], "BadName": ["value"],
    "NoName": ["name"], "NoRow": ["at"], "Blocked": ["word"], "Nothing": [], "TooMany": ["what", "most"],
}


class TestErrors(unittest.TestCase):

    def test_the_nineteen_classes_stand_directly_below_the_base(self):
        self.assertEqual(LinkError.__bases__, (ValueError,))
        self.assertEqual({found.__name__ for found in LinkError.__subclasses__()}, set(PARAMETERS))
        for name in PARAMETERS:
            self.assertEqual(getattr(errors, name).__bases__, (LinkError,))

    def test_arguments_by_position(self):
        for name, parameters in PARAMETERS.items():
            for value in ANY:
                args = [value, ("more", value)][:len(parameters)]
                made = getattr(errors, name)(*args)
                self.assertEqual(list(vars(made)), parameters)
                for parameter, told in zip(parameters, args):
                    self.assertIs(getattr(made, parameter), told)

    def test_arguments_by_name(self):
        for name, parameters in PARAMETERS.items():
            for value in ANY:
                more = dict(list(zip(parameters, [value, [value]])))
                made = getattr(errors, name)(**more)
                self.assertEqual(list(vars(made)), parameters)
                for parameter, told in more.items():
                    self.assertIs(getattr(made, parameter), told)

    def test_each_is_caught_as_its_own_class_and_the_bases_alone(self):
        for name, parameters in PARAMETERS.items():
            made = getattr(errors, name)(*parameters)
            kinds = [other for other in PARAMETERS if isinstance(made, getattr(errors, other))]
            self.assertEqual(kinds, [name])
            with self.assertRaises(LinkError):
                raise made
            with self.assertRaises(ValueError):
                raise made

    def test_the_base_can_be_made(self):
        self.assertIsInstance(LinkError(), ValueError)
