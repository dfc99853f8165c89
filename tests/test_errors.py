"""Point [3]: the refusals, what each is made with and what each stands under."""

import unittest

from termcourt import errors
from termcourt.errors import CourtError

MADE_WITH_A_TEXT = ("NoDay", "NoName", "Full")
MADE_WITH_FIELDS = {
    "NoTable": ("part", "at"),
    "NoRule": ("at",),
    "NoTerm": ("name",),
    "Unfit": ("at",),
    "Ring": ("names",),
    "Twice": ("name",),
    "NoAct": ("name",),
    "Parted": ("kind", "names"),
    "Adrift": ("kind", "names"),
    "NoRow": ("at",),
}
WITH_NAMES = ("Ring", "Parted", "Adrift")
VALUES = {
    "part": ("week", "yearly", "rows"),
    "at": (0, 1, 6, 40, 10 ** 299),
    "name": ("a", "reply", "abcdefgh", "", "No Name", "\t", "{name}", "x" * 5000),
    "kind": ("motion", "a", "zz"),
}
LISTS = (
    [],
    ["a"],
    ["b", "a"],
    ["c", "a", "b"],
    ["a", "a"],
    ["zz", "z", "abcdefgh", "a", "m", "b"],
    [f"n{k}" for k in range(50, 0, -1)],
)


def class_of(name):
    return getattr(errors, name)


def all_names():
    return list(MADE_WITH_A_TEXT) + list(MADE_WITH_FIELDS)


def made_with(name, names):
    """What a refusal of WITH_NAMES is made with, names being its list."""
    return (names,) if name == "Ring" else ("motion", names)


def sample(name):
    """A refusal of that class, made with things of the kinds told."""
    if name in MADE_WITH_A_TEXT:
        return class_of(name)("some text")
    if name in WITH_NAMES:
        return class_of(name)(*made_with(name, ["b", "a"]))
    return class_of(name)(*[VALUES[field][0] for field in MADE_WITH_FIELDS[name]])


class WhatTheyStandUnder(unittest.TestCase):
    def test_there_are_thirteen(self):
        classes = [class_of(name) for name in all_names()]
        self.assertEqual(len(classes), 13)
        self.assertEqual(len(set(classes)), 13)

    def test_court_error_stands_under_value_error(self):
        self.assertEqual(CourtError.__bases__, (ValueError,))
        with self.assertRaises(ValueError):
            raise CourtError("any refusal")

    def test_each_stands_right_under_court_error(self):
        for name in all_names():
            with self.subTest(name=name):
                self.assertEqual(class_of(name).__bases__, (CourtError,))

    def test_each_is_taken_by_court_error_and_by_value_error(self):
        for name in all_names():
            for taker in (CourtError, ValueError):
                with self.subTest(name=name, taker=taker):
                    with self.assertRaises(taker) as caught:
                        raise sample(name)
                    self.assertIs(type(caught.exception), class_of(name))

    def test_none_is_taken_by_another_one(self):
        for name in all_names():
            for other in all_names():
                with self.subTest(name=name, other=other):
                    self.assertEqual(isinstance(sample(name), class_of(other)), name == other)


class WhatTheyAreMadeWith(unittest.TestCase):
    def test_some_are_made_with_a_text(self):
        for name in MADE_WITH_A_TEXT:
            for text in ("no day", "", "a\nb"):
                with self.subTest(name=name, text=text):
                    self.assertIs(type(class_of(name)(text)), class_of(name))

    def test_part_and_at(self):
        for part in VALUES["part"]:
            for at in VALUES["at"]:
                with self.subTest(part=part, at=at):
                    error = errors.NoTable(part, at)
                    self.assertEqual((error.part, error.at), (part, at))

    def test_at_alone_and_name_alone(self):
        for name, fields in MADE_WITH_FIELDS.items():
            if fields not in (("at",), ("name",)):
                continue
            for value in VALUES[fields[0]]:
                with self.subTest(name=name, value=value):
                    self.assertEqual(getattr(class_of(name)(value), fields[0]), value)

    def test_names_in_their_order(self):
        for name in WITH_NAMES:
            for names in LISTS:
                with self.subTest(name=name, names=names):
                    told = class_of(name)(*made_with(name, list(names))).names
                    self.assertIs(type(told), list)
                    self.assertEqual(told, names)

    def test_kind_beside_names(self):
        for name in ("Parted", "Adrift"):
            for kind in VALUES["kind"]:
                with self.subTest(name=name, kind=kind):
                    error = class_of(name)(kind, ["b", "a"])
                    self.assertEqual((error.kind, error.names), (kind, ["b", "a"]))

    def test_they_are_made_by_the_names_of_their_fields_too(self):
        for name, fields in MADE_WITH_FIELDS.items():
            values = {field: ["b", "a"] if field == "names" else VALUES[field][0] for field in fields}
            with self.subTest(name=name):
                error = class_of(name)(**values)
                self.assertEqual({field: getattr(error, field) for field in fields}, values)

    def test_the_fields_are_there_when_taken(self):
        for name, fields in MADE_WITH_FIELDS.items():
            with self.assertRaises(CourtError) as caught:
                raise sample(name)
            for field in fields:
                with self.subTest(name=name, field=field):
                    self.assertEqual(getattr(caught.exception, field), getattr(sample(name), field))


class NamesOfItsOwn(unittest.TestCase):
    CHANGES = (
        lambda names: names.append("d"),
        lambda names: names.clear(),
        lambda names: names.sort(),
        lambda names: names.reverse(),
        lambda names: names.pop(),
        lambda names: names.__setitem__(0, "x"),
        lambda names: names.insert(0, "x"),
    )

    def test_a_list_changed_after_it_was_handed_in_changes_nothing(self):
        for name in WITH_NAMES:
            for k, change in enumerate(self.CHANGES):
                with self.subTest(name=name, change=k):
                    names = ["c", "a", "b"]
                    error = class_of(name)(*made_with(name, names))
                    change(names)
                    self.assertNotEqual(names, ["c", "a", "b"])
                    self.assertEqual(error.names, ["c", "a", "b"])

    def test_the_list_handed_in_is_not_changed(self):
        for name in WITH_NAMES:
            for k, change in enumerate(self.CHANGES):
                with self.subTest(name=name, change=k):
                    names = ["c", "a", "b"]
                    error = class_of(name)(*made_with(name, names))
                    self.assertEqual(names, ["c", "a", "b"])
                    change(error.names)
                    self.assertEqual(names, ["c", "a", "b"])

    def test_two_made_with_one_list_have_each_their_own(self):
        for name in WITH_NAMES:
            with self.subTest(name=name):
                names = ["c", "a", "b"]
                one = class_of(name)(*made_with(name, names))
                other = class_of(name)(*made_with(name, names))
                one.names.append("d")
                self.assertEqual(other.names, ["c", "a", "b"])


if __name__ == "__main__":
    unittest.main()
