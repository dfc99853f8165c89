"""How a refusal is looked at: its class, its fields, and by which classes it is taken."""

import unittest

from termcourt import errors

REFUSALS = (
    "NoDay", "NoName", "Full", "NoTable", "NoRule", "NoTerm", "Unfit", "Ring", "Twice", "NoAct",
    "Parted", "Adrift", "NoRow",
)


class Refusing(unittest.TestCase):
    def assert_refused(self, refusal, ask, *handed, **fields):
        """Asking is refused with the class of that name and no other one, with just these fields."""
        with self.subTest(refusal=refusal, handed=repr(handed)[:200], fields=fields):
            try:
                ask(*handed)
            except ValueError as e:
                error = e
            else:
                self.fail("nothing was refused")
            self.assertIsInstance(error, errors.CourtError)
            self.assertEqual([other for other in REFUSALS if isinstance(error, getattr(errors, other))], [refusal])
            self.assertEqual({field: getattr(error, field) for field in fields}, fields)
