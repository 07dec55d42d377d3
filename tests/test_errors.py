"""The refusals: which class stands under which, and their fields."""

import unittest

from waitedmeets import errors

FIELDS = {
    "NoProgram": (errors.MeetError, ("kind", "rule", "deed")),
    "NoSet": (errors.MeetError, ("thing",)),
    "NoNames": (errors.MeetError, ("thing",)),
    "NoText": (errors.MeetError, ("row",)),
    "NoRun": (errors.MeetError, ("number",)),
    "NoKind": (KeyError, ("thing",)),
    "NoBody": (KeyError, ("thing",)),
    "NoHouse": (KeyError, ("thing",)),
    "NoLot": (IndexError, ("thing",)),
    "NoState": (IndexError, ("thing",)),
    "NoRule": (IndexError, ("thing",)),
    "TooMany": (OverflowError, ("many",)),
}
OF_TEXT = {
    "NoStep": errors.MeetError,
    "NoNumber": errors.MeetError,
    "NoLine": errors.MeetError,
    "NoNet": errors.MeetError,
    "NoMarking": errors.MeetError,
    "NoTeller": errors.MeetError,
    "NoRow": errors.MeetError,
    "Unlike": errors.MeetError,
    "NoDesk": LookupError,
}


class Families(unittest.TestCase):
    def test_meet_error_is_straight_under_value_error(self):
        self.assertEqual(errors.MeetError.__bases__, (ValueError,))

    def test_each_is_straight_under_what_is_told(self):
        for name, (base, _) in FIELDS.items():
            self.assertEqual(getattr(errors, name).__bases__, (base,), name)
        for name, base in OF_TEXT.items():
            self.assertEqual(getattr(errors, name).__bases__, (base,), name)

    def test_none_is_under_another(self):
        classes = [getattr(errors, name) for name in [*FIELDS, *OF_TEXT]]
        for one in classes:
            for other in classes:
                self.assertEqual(issubclass(one, other), one is other, (one, other))

    def test_there_are_just_these(self):
        told = {name for name, thing in vars(errors).items() if isinstance(thing, type)}
        self.assertEqual(told, {"MeetError", *FIELDS, *OF_TEXT})

    def test_no_desk_is_neither_key_nor_index_error(self):
        self.assertFalse(issubclass(errors.NoDesk, (KeyError, IndexError)))

    def test_those_beside_are_no_value_errors(self):
        for name in ("NoKind", "NoBody", "NoHouse", "NoLot", "NoState", "NoRule", "NoDesk", "TooMany"):
            self.assertFalse(issubclass(getattr(errors, name), ValueError), name)


class Fields(unittest.TestCase):
    def test_by_place(self):
        for name, (_, fields) in FIELDS.items():
            values = [object() for _ in fields]
            error = getattr(errors, name)(*values)
            for field, value in zip(fields, values):
                self.assertIs(getattr(error, field), value, name)

    def test_by_name(self):
        for name, (_, fields) in FIELDS.items():
            values = {field: [field] for field in reversed(fields)}
            error = getattr(errors, name)(**values)
            for field in fields:
                self.assertIs(getattr(error, field), values[field], name)

    def test_the_same_words_by_place_and_by_name(self):
        for name, (_, fields) in FIELDS.items():
            by_place = getattr(errors, name)(*range(len(fields)))
            by_name = getattr(errors, name)(**{field: at for at, field in enumerate(fields)})
            self.assertEqual(str(by_place), str(by_name), name)
            self.assertNotEqual(str(by_name), "", name)

    def test_none_and_numbers(self):
        error = errors.NoProgram(2, None, 0)
        self.assertEqual((error.kind, error.rule, error.deed), (2, None, 0))
        self.assertIsNone(errors.NoRun(None).number)
        self.assertEqual(errors.NoRun(-1).number, -1)

    def test_as_many_values_as_fields(self):
        for name, (_, fields) in FIELDS.items():
            with self.assertRaises(TypeError):
                getattr(errors, name)(*[1 for _ in fields], 1)
            with self.assertRaises(TypeError):
                getattr(errors, name)()

    def test_a_thing_may_be_anything(self):
        deep = []
        deep.append(deep)
        for thing in (None, deep, {1: 2}, 10 ** 5000, object()):
            error = errors.NoKind(thing)
            self.assertIs(error.thing, thing)
            self.assertIsInstance(str(error), str)

    def test_of_a_text(self):
        for name in OF_TEXT:
            self.assertEqual(str(getattr(errors, name)("why")), "why", name)


if __name__ == "__main__":
    unittest.main()
