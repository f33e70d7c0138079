import copy
import inspect
import unittest

from echopanes import errors

# name, the class of Python's own that it stands straight under, its field
TOLD = [
    ("BadText", ValueError, "text"),
    ("BadRow", ValueError, "number"),
    ("NoPane", ValueError, None),
    ("NoCry", ValueError, None),
    ("NoRow", ValueError, None),
    ("Few", ValueError, "lack"),
    ("Clash", ValueError, "place"),
    ("ClashWeights", ValueError, None),
    ("NoRoom", LookupError, "room"),
    ("NoDeed", LookupError, "many"),
    ("Walled", RuntimeError, None),
]

WORTHS = {"text": ["", "row 1/2", "a\nb"]}
NUMBERS = [0, 1, -1, 7, 10 ** 6000]


def worths_of(field):
    return WORTHS.get(field, NUMBERS)


class ErrorClasses(unittest.TestCase):
    def test_just_these_classes(self):
        found = [name for name, thing in vars(errors).items() if inspect.isclass(thing)]
        self.assertEqual(sorted(found), sorted(name for name, base, field in TOLD))

    def test_each_straight_under_its_base(self):
        for name, base, field in TOLD:
            with self.subTest(name):
                self.assertEqual(getattr(errors, name).__bases__, (base,))

    def test_fields_are_kept_by_place(self):
        for name, base, field in TOLD:
            for worth in worths_of(field) if field else []:
                made = getattr(errors, name)(worth)
                self.assertEqual(getattr(made, field), worth, name)

    def test_fields_are_kept_by_name(self):
        for name, base, field in TOLD:
            for worth in worths_of(field) if field else []:
                made = getattr(errors, name)(**{field: worth})
                self.assertEqual(getattr(made, field), worth, name)

    def test_made_without_fields_where_none_is_told(self):
        for name, base, field in TOLD:
            if field is None:
                self.assertEqual(vars(getattr(errors, name)()), {}, name)
            else:
                with self.assertRaises(TypeError, msg=name):
                    getattr(errors, name)()

    def test_raised_and_caught_by_its_own_class_alone(self):
        for name, base, field in TOLD:
            kind = getattr(errors, name)
            others = tuple(getattr(errors, other) for other, _, _ in TOLD if other != name)
            with self.subTest(name), self.assertRaises(kind) as caught:
                raise kind(*([5] if field else []))
            self.assertNotIsInstance(caught.exception, others)

    def test_a_copy_keeps_the_fields(self):
        for name, base, field in TOLD:
            made = getattr(errors, name)(*([5] if field else []))
            self.assertEqual(vars(copy.copy(made)), vars(made), name)


if __name__ == "__main__":
    unittest.main()
