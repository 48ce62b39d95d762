"""The refusals: their values, and where their classes stand [2, the interface]."""

import unittest

from glazebench import errors

ARGUMENTS = {
    "NoSide": ("side",),
    "TooMany": ("many",),
    "NoPane": ("place",),
    "Overlap": ("place",),
    "Bare": ("square",),
    "NoDrawing": ("drawing",),
    "Ragged": ("letter",),
    "NoCut": ("at",),
    "NoTree": ("place",),
    "NoBlock": ("block",),
    "Stuck": ("room", "breaks", "leads"),
    "NoMove": ("steps",),
    "Unlike": (),
    "NoNumber": ("number",),
    "NoKind": ("place",),
    "Unfit": ("piece",),
    "NoFlaw": ("place",),
    "NoWant": ("place",),
    "NoSheet": ("place",),
    "NoSize": ("size",),
    "NoPlan": ("want",),
    "NoGlass": ("width", "height"),
    "NoLine": ("line",),
    "NoName": ("name",),
}


class Unwritable:
    def __repr__(self):
        raise RuntimeError("not to be written out")

    __str__ = __repr__


class TestErrors(unittest.TestCase):
    def check_values(self, refusal, names, things):
        for name, thing in zip(names, things):
            self.assertIs(getattr(refusal, name), thing)

    def test_each_keeps_its_arguments_as_values(self):
        for class_name, names in ARGUMENTS.items():
            with self.subTest(class_name):
                things = [object() for name in names]
                made = getattr(errors, class_name)(*things)
                self.check_values(made, names, things)
                self.assertEqual(sorted(vars(made)), sorted(names))

    def test_each_is_made_by_the_names_of_its_arguments_too(self):
        for class_name, names in ARGUMENTS.items():
            with self.subTest(class_name):
                things = [object() for name in names]
                made = getattr(errors, class_name)(**dict(zip(names, things)))
                self.check_values(made, names, things)

    def test_each_is_made_of_whatever_is_handed_in(self):
        endless = []
        endless.append(endless)
        for thing in (None, True, 10 ** 5000, "", [1], {}, endless, Unwritable()):
            for class_name, names in ARGUMENTS.items():
                things = [thing for name in names]
                made = getattr(errors, class_name)(*things)
                self.check_values(made, names, things)

    def test_none_is_made_with_too_few_arguments(self):
        for class_name, names in ARGUMENTS.items():
            if names:
                with self.assertRaises(TypeError):
                    getattr(errors, class_name)(*names[1:])

    def test_each_stands_under_glass_error_and_value_error(self):
        for class_name, names in ARGUMENTS.items():
            with self.subTest(class_name):
                with self.assertRaises(errors.GlassError) as caught:
                    raise getattr(errors, class_name)(*names)
                self.assertIsInstance(caught.exception, ValueError)

    def test_glass_error_stands_under_value_error(self):
        self.assertEqual(errors.GlassError.__bases__, (ValueError,))
        with self.assertRaises(ValueError):
            raise errors.GlassError()

    def test_none_stands_under_another_one(self):
        for one in ARGUMENTS:
            for other in ARGUMENTS:
                stands = issubclass(getattr(errors, one), getattr(errors, other))
                self.assertEqual(stands, one == other, (one, other))

    def test_there_are_no_other_ones(self):
        found = [name for name, thing in vars(errors).items() if isinstance(thing, type)]
        self.assertEqual(sorted(found), sorted(list(ARGUMENTS) + ["GlassError"]))


if __name__ == "__main__":
    unittest.main()
