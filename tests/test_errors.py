"""The errors, their families and fields."""

import inspect

from bestunmoved import errors
from tests.helpers import Case

FAMILIES = {
    "PaperError": {"InvalidPaper": ("word", "at")},
    "HouseError": {"NotUsable": ("word", "at"), "Unheard": ("door", "other"), "Barred": ("ring",),
                   "Misshown": ("deed", "book", "word")},
    "LiveError": {"InvalidEvent": ("event", "reason"), "NothingToUndo": ("steps",)},
    "TextError": {"InvalidText": ("line", "field"), "InvalidRow": ("row",)},
}


class Errors(Case):

    def test_families(self):
        self.assertEqual(errors.UnmovedError.__bases__, (ValueError,))
        for family, members in FAMILIES.items():
            self.assertEqual(getattr(errors, family).__bases__, (errors.UnmovedError,))
            for name in members:
                self.assertEqual(getattr(errors, name).__bases__, (getattr(errors, family),))

    def test_nothing_else_is_an_error(self):
        names = {"UnmovedError"} | set(FAMILIES) | {name for members in FAMILIES.values() for name in members}
        found = {name for name, value in vars(errors).items() if inspect.isclass(value)}
        self.assertEqual(found, names)

    def test_fields_are_kept_as_they_are(self):
        for members in FAMILIES.values():
            for name, fields in members.items():
                error = getattr(errors, name)
                values = [[k] for k in range(len(fields))]
                for made in (error(*values), error(**dict(zip(fields, values)))):
                    self.assertEqual(list(vars(made)), list(fields))
                    for field, value in zip(fields, values):
                        self.assertIs(getattr(made, field), value)
                    str(made)
                    repr(made)

    def test_exactly_the_fields(self):
        for members in FAMILIES.values():
            for name, fields in members.items():
                error = getattr(errors, name)
                for many in (len(fields) - 1, len(fields) + 1):
                    with self.assertRaises(TypeError):
                        error(*range(many))

    def test_caught_by_family(self):
        with self.assertRaises(errors.HouseError):
            raise errors.Barred((0, 1))
        with self.assertRaises(ValueError):
            raise errors.InvalidRow(0)
