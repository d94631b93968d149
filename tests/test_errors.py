"""The errors, their classes and attributes."""

from handcarried import errors
from handcarried.errors import CarryError, Malformed, Refused
from helpers import Case

MALFORMED = {
    "BadSigns": ("signs",), "BadPaper": ("paper",), "BadName": ("name",), "BadWalk": ("word",), "BadRule": ("rule",),
    "BadForm": ("field",), "BadSlip": ("slip",), "BadWay": ("station",), "BadNumber": ("paper",),
    "BadCopying": ("copying",), "BadSight": ("sight",), "BadPoint": ("point",), "BadGap": ("gap",),
    "BadMenu": ("item",), "BadHeard": ("item",), "BadAnswer": ("answer",), "BadDeed": ("deed",),
    "BadLine": ("line", "word"),
}
REFUSED = {
    "NoNumber": ("number",), "NoPlan": ("papers",), "NoBlock": ("branch",), "NotInForce": ("paper",),
    "NotVoid": ("paper",),
}
OTHERS = {
    "TooMany": ("what",), "Twice": ("name",), "Unknown": ("name",), "Unlike": ("what",), "Unfit": ("what",),
}


class TestErrors(Case):
    def look(self, table, base):
        for name, attributes in table.items():
            kind = getattr(errors, name)
            self.assertEqual(kind.__bases__, (base,), name)
            values = [object() for _ in attributes]
            error = kind(*values)
            for attribute, value in zip(attributes, values):
                self.assertIs(getattr(error, attribute), value)
            self.assertTrue(str(error), name)
            self.assertEqual(kind(**dict(zip(attributes, values))).__dict__, error.__dict__)

    def test_each_error_stands_in_its_place_and_keeps_its_arguments(self):
        self.assertEqual(CarryError.__bases__, (ValueError,))
        self.assertEqual(Malformed.__bases__, (CarryError,))
        self.assertEqual(Refused.__bases__, (CarryError,))
        self.look(MALFORMED, Malformed)
        self.look(REFUSED, Refused)
        self.look(OTHERS, CarryError)

    def test_there_is_no_other_error(self):
        names = {name for name, thing in vars(errors).items() if isinstance(thing, type)}
        self.assertEqual(names, {"CarryError", "Malformed", "Refused", *MALFORMED, *REFUSED, *OTHERS})

    def test_an_error_takes_any_thing(self):
        deep = []
        for _ in range(190):
            deep = [deep, deep]
        for name in (*MALFORMED, *REFUSED, *OTHERS):
            attributes = {**MALFORMED, **REFUSED, **OTHERS}[name]
            error = getattr(errors, name)(*[1 for _ in attributes])
            self.assertTrue(str(error))
        self.assertIs(errors.BadRule(deep).rule, deep)
        self.assertIs(errors.BadPaper(deep).paper, deep)
        self.assertIs(errors.BadSigns(deep).signs, deep)
