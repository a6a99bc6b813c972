"""Point 2: the errors, their bases, the value that each keeps."""

import surecounts.errors as errors
from tests.cases import LONG, ODD, Case

SURE = {
    "InvalidTable": "value", "InvalidFact": "place", "InvalidQuestion": "value", "InvalidSpread": "value",
    "InvalidColumn": "place", "InvalidChain": "place", "InvalidMembers": "value", "InvalidPlan": "value",
    "InvalidText": "place", "UnknownName": "name", "InvalidCommand": "word",
}
OTHERS = {
    "InvalidNumber": (ValueError, "value"), "LimitExceeded": (OverflowError, "limit"),
    "Contradictory": (RuntimeError, "part"), "MissingRows": (LookupError, "number"),
    "NothingToUndo": (RuntimeError, "name"),
}
FIELDS = {**SURE, **{name: field for name, (_, field) in OTHERS.items()}}


class Errors(Case):

    def test_bases(self):
        self.assertEqual(errors.SureError.__bases__, (Exception,))
        for name in SURE:
            self.assertTrue(issubclass(getattr(errors, name), errors.SureError), name)
        for name, (base, _) in OTHERS.items():
            made = getattr(errors, name)
            self.assertTrue(issubclass(made, base), name)
            self.assertFalse(issubclass(made, errors.SureError), name)

    def test_the_sure_errors_are_of_none_of_pythons_narrower_errors(self):
        for name in SURE:
            for base in (ValueError, LookupError, RuntimeError, OverflowError):
                self.assertFalse(issubclass(getattr(errors, name), base), name)

    def test_none_is_of_another_of_these_classes(self):
        for name in FIELDS:
            for other in FIELDS:
                if name != other:
                    self.assertFalse(issubclass(getattr(errors, name), getattr(errors, other)), (name, other))

    def test_none_is_of_the_base_of_another_group(self):
        for name, (base, _) in OTHERS.items():
            for other, (other_base, _) in OTHERS.items():
                if base is not other_base:
                    self.assertFalse(issubclass(getattr(errors, name), other_base), (name, other))

    def test_field_by_position_and_by_name(self):
        for name, field in FIELDS.items():
            made = getattr(errors, name)
            for value in [*ODD, LONG, -1, (1, 2), ValueError("x")]:
                self.assertIs(getattr(made(value), field), value, name)
                self.assertIs(getattr(made(**{field: value}), field), value, name)
                self.assertEqual(list(vars(made(value))), [field])

    def test_one_argument_is_needed(self):
        for name in FIELDS:
            made = getattr(errors, name)
            self.assertRaises(TypeError, made)
            self.assertRaises(TypeError, made, 1, 2)

    def test_raised_and_caught_by_base(self):
        for name, field in FIELDS.items():
            base = errors.SureError if name in SURE else OTHERS[name][0]
            with self.assertRaises(base) as caught:
                raise getattr(errors, name)((name, 1))
            self.assertEqual(getattr(caught.exception, field), (name, 1))
