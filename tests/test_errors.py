"""The errors: their bases, and the arguments that they keep."""

import heldfloods.errors as errors
from heldfloods.errors import HoldError
from tests.helpers import VALUES, Case

FIELDS = {
    "BadPlace": ["part"], "BadSize": ["part"], "BadColour": ["value"], "BadPixel": ["x", "y"], "BadPicture": ["row"],
    "BadDeed": ["part"], "BadProgram": ["at"], "BadClaim": ["part"], "BadClass": ["part"], "Unlike": [],
    "TooMany": ["what", "most"], "NoDeed": ["index"], "NoFlood": ["index"], "NoClass": ["value"],
    "Fails": ["width", "height"], "Gap": ["x", "y"], "BadText": ["line", "word"], "NoName": ["name"],
    "NoRow": ["word"],
}
CLASSES = {name: getattr(errors, name) for name in FIELDS}


class Errors(Case):
    def test_base(self):
        self.assertEqual(HoldError.__bases__, (ValueError,))
        self.assertEqual(HoldError.__module__, "heldfloods.errors")

    def test_each_stands_below_the_base_alone(self):
        for name, kind in CLASSES.items():
            self.assertTrue(issubclass(kind, HoldError) and issubclass(kind, ValueError), name)
            self.assertEqual(kind.__module__, "heldfloods.errors")
            self.assertEqual([other for other in CLASSES if issubclass(kind, CLASSES[other])], [name])

    def test_arguments_are_kept(self):
        for name, fields in FIELDS.items():
            for value in VALUES:
                by_place = CLASSES[name](*[value for _ in fields])
                by_name = CLASSES[name](**{field: value for field in fields})
                for error in (by_place, by_name):
                    self.assertTrue(all(getattr(error, field) is value for field in fields), (name, value))

    def test_two_arguments_keep_their_order(self):
        for name, fields in FIELDS.items():
            if len(fields) == 2:
                error = CLASSES[name]("first", "second")
                self.assertEqual([getattr(error, field) for field in fields], ["first", "second"], name)

    def test_caught_by_its_own_class_and_by_the_base(self):
        for name, fields in FIELDS.items():
            for kind in (CLASSES[name], HoldError, ValueError):
                with self.assertRaises(kind):
                    raise CLASSES[name](*fields)

    def test_not_caught_by_another_class(self):
        for name, fields in FIELDS.items():
            for other in FIELDS:
                error = CLASSES[name](*fields)
                self.assertEqual(isinstance(error, CLASSES[other]), name == other)

    def test_wrong_number_of_arguments(self):
        for name, fields in FIELDS.items():
            if fields:
                with self.assertRaises(TypeError):
                    CLASSES[name]()
                with self.assertRaises(TypeError):
                    CLASSES[name](*fields, "more")
