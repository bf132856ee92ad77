"""The classes of refusal: [2], and the section errors.py of the interface."""

import itertools
import unittest

from worthrooms import errors

FIELDS = {
    "NoStands": [], "NoRow": [], "Unlike": [],
    "NoTown": ["wrong"], "NoStanding": ["wrong"], "NoEvent": ["wrong"], "NoCalendar": ["wrong"],
    "NoHand": ["name"], "NoHome": ["name"],
    "Short": ["hand", "lacks", "at"],
    "NoRoad": ["pair", "at"],
    "Barred": ["paper"], "Needed": ["paper"],
    "NoNumber": ["many"], "Taken": ["name"], "TooGreat": ["most"],
}


class Errors(unittest.TestCase):
    def test_each_stands_straight_under_town_error(self):
        self.assertEqual(errors.TownError.__bases__, (ValueError,))
        for word in FIELDS:
            self.assertEqual(getattr(errors, word).__bases__, (errors.TownError,), word)

    def test_no_class_beside_those_told(self):
        classes = [word for word, thing in vars(errors).items() if isinstance(thing, type)]
        self.assertEqual(sorted(classes), sorted([*FIELDS, "TownError"]))

    def test_each_is_defined_in_its_file(self):
        for word in [*FIELDS, "TownError"]:
            self.assertEqual(getattr(errors, word).__module__, "worthrooms.errors")

    def test_a_field_not_told_is_none(self):
        for word, fields in FIELDS.items():
            made = getattr(errors, word)()
            self.assertEqual(vars(made), {field: None for field in fields}, word)

    def test_any_fields_told_by_name_in_any_order(self):
        for word, fields in FIELDS.items():
            for many in range(len(fields) + 1):
                for told in itertools.permutations(fields, many):
                    things = {field: [field] for field in told}
                    made = getattr(errors, word)(**things)
                    for field in fields:
                        self.assertIs(getattr(made, field), things.get(field), (word, told))

    def test_fields_told_by_place(self):
        for word, fields in FIELDS.items():
            things = [[field] for field in fields]
            made = getattr(errors, word)(*things)
            for field, thing in zip(fields, things):
                self.assertIs(getattr(made, field), thing)

    def test_fields_are_of_each_object_alone(self):
        one = errors.NoRoad(("a", "b"), 3)
        other = errors.NoRoad()
        self.assertEqual((one.pair, one.at), (("a", "b"), 3))
        self.assertEqual((other.pair, other.at), (None, None))


if __name__ == "__main__":
    unittest.main()
