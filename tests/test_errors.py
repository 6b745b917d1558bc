"""Point 7 and the interface of kernelpapers/errors.py."""

import unittest
from kernelpapers import errors
from samples import NOTHINGS, NO_TERMS, Stranger

FAMILIES = {"PaperError": ValueError, "NotThere": KeyError, "NoneLeft": LookupError}
REFUSALS = {
    "PaperError": {
        "NoTerm": ["found"], "NoSpot": ["found"], "NoNumber": ["found"], "NoName": ["found"], "NoGround": ["found"],
        "NoRow": ["found"], "Doubled": ["found"], "NoRoom": ["found"], "NoStep": ["found"], "Tired": ["most"],
        "NoPaper": ["spot", "why"], "Unsound": ["row", "where", "spot", "why"], "NoText": ["found"], "NoSign": ["at"],
        "NoDeed": ["found"], "NoFit": ["found"], "Leant": ["found"], "NoLine": ["found"], "Stale": ["found"],
        "NoBack": ["found"],
    },
    "NotThere": {"NoThing": ["found"], "NoHole": ["found"], "NotOnShelf": ["found"]},
    "NoneLeft": {"Open": ["found"], "NoneGoes": ["found"]},
}
EACH = [(family, name, fields) for family, rows in REFUSALS.items() for name, fields in rows.items()]


class Families(unittest.TestCase):
    def test_each_stands_straight_under_its_own_error(self):
        for name, base in FAMILIES.items():
            self.assertEqual(getattr(errors, name).__bases__, (base,))

    def test_each_is_made_of_one_text(self):
        for name in FAMILIES:
            made = getattr(errors, name)("some text")
            self.assertEqual(made.args, ("some text",))

    def test_each_catches_none_but_its_own(self):
        for family, name, fields in EACH:
            for other in FAMILIES:
                made = getattr(errors, name)(*fields)
                self.assertEqual(isinstance(made, getattr(errors, other)), other == family, (name, other))


class Refusals(unittest.TestCase):
    def test_there_are_twenty_five_and_no_other_class(self):
        self.assertEqual(len(EACH), 25)
        classes = {name for name, thing in vars(errors).items() if isinstance(thing, type)}
        self.assertEqual(classes, set(FAMILIES) | {name for _, name, _ in EACH})

    def test_each_is_defined_here_straight_under_one_family(self):
        for family, name, _ in EACH:
            refusal = getattr(errors, name)
            self.assertEqual(refusal.__bases__, (getattr(errors, family),), name)
            self.assertEqual(refusal.__module__, "kernelpapers.errors")
            self.assertEqual(refusal.__name__, name)

    def test_each_has_the_very_things_as_its_fields(self):
        for _, name, fields in EACH:
            things = [[field] for field in fields]
            made = getattr(errors, name)(*things)
            for field, thing in zip(fields, things):
                self.assertIs(getattr(made, field), thing, name)

    def test_each_is_made_by_the_names_of_its_fields_in_any_order(self):
        for _, name, fields in EACH:
            things = {field: {field: name} for field in reversed(fields)}
            made = getattr(errors, name)(**things)
            for field in fields:
                self.assertIs(getattr(made, field), things[field], name)

    def test_each_is_made_of_any_things(self):
        for _, name, fields in EACH:
            for thing in [*NOTHINGS, *NO_TERMS, Stranger(), KeyError("a")]:
                made = getattr(errors, name)(*[thing for _ in fields])
                for field in fields:
                    self.assertIs(getattr(made, field), thing, name)

    def test_none_is_made_of_more_or_fewer_things(self):
        for _, name, fields in EACH:
            with self.assertRaises(TypeError):
                getattr(errors, name)(*fields, 1)
            with self.assertRaises(TypeError):
                getattr(errors, name)(*fields[1:])

    def test_each_is_raised_and_caught_as_its_family_and_as_pythons(self):
        for family, name, fields in EACH:
            for kind in (getattr(errors, name), getattr(errors, family), FAMILIES[family]):
                with self.assertRaises(kind) as caught:
                    raise getattr(errors, name)(*fields)
                self.assertIs(caught.exception.__class__, getattr(errors, name))

    def test_words_can_be_asked(self):
        for _, name, fields in EACH:
            self.assertIsInstance(str(getattr(errors, name)(*fields)), str)


if __name__ == "__main__":
    unittest.main()
