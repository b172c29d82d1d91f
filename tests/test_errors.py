"""[10] and the list of errors of the interface."""

import inspect
import unittest

from pagelives import errors
from tests.samples import ODD, Case

FAMILIES = ("PaperError", "StoreError", "LiveError", "TextError")
FIELDS = {
    "InvalidPaper": ("PaperError", ("word", "at")),
    "NotUsable": ("StoreError", ("word", "at")),
    "InvalidDeed": ("StoreError", ("deed", "word")),
    "InvalidEvent": ("LiveError", ("event", "reason")),
    "NothingToUndo": ("LiveError", ("steps",)),
    "Broken": ("LiveError", ("done",)),
    "InvalidText": ("TextError", ("line", "field")),
    "InvalidRow": ("TextError", ("row",)),
}


class Errors(Case):
    def test_families(self):
        self.assertEqual(errors.PageError.__bases__, (ValueError,))
        for name in FAMILIES:
            self.assertEqual(getattr(errors, name).__bases__, (errors.PageError,))

    def test_each_is_derived_directly_from_its_family(self):
        for name, (family, _) in FIELDS.items():
            self.assertEqual(getattr(errors, name).__bases__, (getattr(errors, family),))

    def test_no_other_classes(self):
        found = [name for name, _ in inspect.getmembers(errors, inspect.isclass)]
        self.assertEqual(sorted(found), sorted(["PageError", *FAMILIES, *FIELDS]))

    def test_fields_by_position_and_by_name(self):
        for name, (_, fields) in FIELDS.items():
            error = getattr(errors, name)
            values = [object() for _ in fields]
            for made in (error(*values), error(**dict(zip(fields, values)))):
                self.assertEqual(list(vars(made)), list(fields))
                for field, value in zip(fields, values):
                    self.assertIs(getattr(made, field), value)

    def test_just_these_fields(self):
        for name, (_, fields) in FIELDS.items():
            error = getattr(errors, name)
            for many in (0, len(fields) - 1, len(fields) + 1):
                with self.assertRaises(TypeError):
                    error(*[1] * many)

    def test_fields_may_be_any_values(self):
        for name, (_, fields) in FIELDS.items():
            for thing in ODD:
                made = getattr(errors, name)(*[thing for _ in fields])
                self.assertEqual([vars(made)[field] is thing for field in fields], [True] * len(fields))

    def test_they_can_be_raised_and_caught_by_family(self):
        for name, (family, fields) in FIELDS.items():
            with self.assertRaises(getattr(errors, family)):
                raise getattr(errors, name)(*fields)


if __name__ == "__main__":
    unittest.main()
