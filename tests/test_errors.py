"""The errors: their classes, and what they keep."""

from forwardlists import errors
from forwardlists.errors import ListError
from tests.cases import Case, any_values

FIELDS = {
    "Unfit": (), "BadText": ("place",), "BadRule": ("error",), "BadOrder": ("error",), "BadTable": ("error",),
    "BadStream": ("place",), "TooMany": ("limit",), "NoName": ("given",), "Taken": ("given",),
    "NothingToUndo": (), "TooManyEdits": (), "BadLog": ("place",),
}


class Errors(Case):
    def test_list_error_stands_directly_under_value_error(self):
        self.assertEqual(ListError.__bases__, (ValueError,))

    def test_each_error_stands_directly_under_list_error(self):
        for name in FIELDS:
            with self.subTest(name):
                self.assertEqual(getattr(errors, name).__bases__, (ListError,))
                self.assertEqual(getattr(errors, name).__module__, "forwardlists.errors")

    def test_no_two_errors_are_one(self):
        self.assertEqual(len({getattr(errors, name) for name in FIELDS}), len(FIELDS))

    def test_an_error_keeps_what_it_was_made_with_by_place_and_by_name(self):
        for name, fields in FIELDS.items():
            for field in fields:
                for value in any_values():
                    by_place = getattr(errors, name)(value)
                    by_name = getattr(errors, name)(**{field: value})
                    self.assertIs(getattr(by_place, field), value)
                    self.assertIs(getattr(by_name, field), value)

    def test_what_an_error_keeps_is_left_as_it_was(self):
        for name, fields in FIELDS.items():
            if fields:
                self.keeps(getattr(errors, name), [1, {"a": [2]}])

    def test_an_error_without_fields_is_made_of_nothing(self):
        for name, fields in FIELDS.items():
            if not fields:
                self.exact(vars(getattr(errors, name)()), {})

    def test_each_error_can_be_raised_and_caught(self):
        for name, fields in FIELDS.items():
            for caught in (getattr(errors, name), ListError, ValueError):
                with self.assertRaises(caught):
                    raise getattr(errors, name)(*[3 for _ in fields])
