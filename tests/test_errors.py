"""[4]: the refusals."""

import unittest

from clearyard import errors
from things import ODD, Case

FIELDS = {
    "NoName": "name", "NoAmount": None, "Short": "name", "NoPot": "number", "NoTime": "time", "NoOrder": "number",
    "NoOrders": None, "NoHow": None, "NoState": None, "NoSeal": None, "NoPool": "number", "Done": "number",
    "NoMove": None, "NotNow": None, "NoWay": None, "NoTree": None, "NoDeed": "at", "NoLog": "row",
}


class Refusals(Case):

    def test_all_stand_there_and_no_others(self):
        classes = [name for name, thing in vars(errors).items() if isinstance(thing, type)]
        self.assertEqual(sorted(classes), sorted(["YardError", *FIELDS]))

    def test_each_is_straight_under_yard_error(self):
        self.assertEqual(errors.YardError.__bases__, (ValueError,))
        for name in FIELDS:
            self.assertEqual(getattr(errors, name).__bases__, (errors.YardError,), name)

    def test_each_stands_in_its_file(self):
        for name in ["YardError", *FIELDS]:
            self.assertEqual(getattr(errors, name).__module__, "clearyard.errors")
            self.assertEqual(getattr(errors, name).__name__, name)

    def test_fields_by_place_and_by_name(self):
        for name, field in FIELDS.items():
            refusal = getattr(errors, name)
            if field is None:
                self.assertEqual(vars(refusal()), {})
                continue
            for thing in [5, "ann", *ODD]:
                self.assertEqual(repr(vars(refusal(thing))), repr({field: thing}))
                self.assertEqual(repr(vars(refusal(**{field: thing}))), repr({field: thing}))
                self.assertIsInstance(str(refusal(thing)), str)


if __name__ == "__main__":
    unittest.main()
