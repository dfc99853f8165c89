"""Rules: their fields, and the roles of kinds by points [23], [24] and [31]."""

import unittest

from samples import written
from termcourt.rules import Rule

FIELDS = ("name", "who", "owes", "opens", "base", "many", "unit", "still")
LISTS = ("ends", "anew", "longer", "yields")


def from_rule():
    """A rule with a kind of each role."""
    rule = Rule("answer", "buyer", "reply", "claim", None, 14, "days", ("halt", "resume"))
    rule.ends.append("drop")
    rule.ends.append("settle")
    rule.anew.append("amend")
    rule.anew.append("serve")
    rule.longer.append(("grant", 7, 2))
    rule.longer.append(("plea", 3, 1))
    rule.yields.append("other")
    return rule


def behind_rule():
    return Rule("appeal", "seller", "appeal", None, "answer", 2, "weeks")


class Fields(unittest.TestCase):
    def assert_fields(self, rule, *told):
        self.assertEqual(tuple(getattr(rule, field) for field in FIELDS), told)

    def test_as_they_were_handed_in(self):
        self.assert_fields(from_rule(), "answer", "buyer", "reply", "claim", None, 14, "days", ("halt", "resume"))
        self.assert_fields(behind_rule(), "appeal", "seller", "appeal", None, "answer", 2, "weeks", None)

    def test_each_at_its_place(self):
        rule = Rule("a", "b", "c", "d", "e", 5, "court", ("f", "g"))
        self.assert_fields(rule, "a", "b", "c", "d", "e", 5, "court", ("f", "g"))

    def test_still_left_out_none_or_two_kinds(self):
        handed = ("a", "b", "c", "d", None, 5, "court")
        self.assertIsNone(Rule(*handed).still)
        self.assertIsNone(Rule(*handed, None).still)
        self.assertIsNone(Rule(*handed, still=None).still)
        self.assertEqual(Rule(*handed, ("f", "g")).still, ("f", "g"))
        self.assertEqual(Rule(*handed, still=("f", "g")).still, ("f", "g"))

    def test_many_of_any_size(self):
        for many in (1, 40, 41, written(60), written(300)):
            self.assertEqual(Rule("a", "b", "c", "d", None, many, "days").many, many)

    def test_each_unit(self):
        for unit in ("days", "weeks", "court"):
            self.assertEqual(Rule("a", "b", "c", "d", None, 5, unit).unit, unit)

    def test_arguments_have_the_names_told(self):
        rule = Rule(unit="court", many=5, base="e", opens="d", owes="c", who="b", name="a", still=("f", "g"))
        self.assert_fields(rule, "a", "b", "c", "d", "e", 5, "court", ("f", "g"))
        self.assertEqual(rule.role(kind="c"), "ends")


class Lists(unittest.TestCase):
    def test_nothing_is_in_them_at_first(self):
        for rule in (behind_rule(), Rule("a", "b", "c", "d", None, 5, "court", ("f", "g"))):
            self.assertEqual([getattr(rule, field) for field in LISTS], [[], [], [], []])

    def test_they_are_lists(self):
        for field in LISTS:
            self.assertIs(type(getattr(behind_rule(), field)), list)

    def test_what_is_added_stays_in_its_order(self):
        rule = from_rule()
        self.assertEqual(rule.ends, ["drop", "settle"])
        self.assertEqual(rule.anew, ["amend", "serve"])
        self.assertEqual(rule.longer, [("grant", 7, 2), ("plea", 3, 1)])
        self.assertEqual(rule.yields, ["other"])

    def test_each_rule_has_its_own(self):
        for field in LISTS:
            one = behind_rule()
            other = behind_rule()
            getattr(one, field).append("thing")
            self.assertEqual(getattr(other, field), [])
            self.assertEqual(getattr(behind_rule(), field), [])

    def test_each_list_is_another_one(self):
        for field in LISTS:
            rule = behind_rule()
            getattr(rule, field).append("thing")
            self.assertEqual([getattr(rule, other) for other in LISTS if other != field], [[], [], []])


class Roles(unittest.TestCase):
    def assert_roles(self, rule, told):
        self.assertEqual({kind: rule.role(kind) for kind in told}, told)

    def test_of_a_rule_with_all_of_them(self):
        self.assert_roles(from_rule(), {
            "reply": "ends", "drop": "ends", "settle": "ends", "amend": "anew", "serve": "anew",
            "grant": "longer", "plea": "longer", "halt": "still", "resume": "goes on",
        })

    def test_the_from_kind_has_none(self):
        self.assertEqual(from_rule().role("claim"), "")

    def test_other_kinds_have_none(self):
        for kind in ("other", "answer", "buyer", "days", "a", "rep", "replyy", "hal", "halt ", "", "ends", "still"):
            self.assertEqual(from_rule().role(kind), "")

    def test_of_a_rule_without_from_kind_and_without_still(self):
        self.assert_roles(behind_rule(), {
            "appeal": "ends", "answer": "", "seller": "", "halt": "", "resume": "", "claim": "", "none": "", "": "",
        })

    def test_of_a_rule_that_hangs_and_stands_still(self):
        rule = Rule("a", "b", "c", None, "e", 5, "court", ("f", "g"))
        self.assert_roles(rule, {"a": "", "b": "", "c": "ends", "e": "", "f": "still", "g": "goes on"})

    def test_names_in_yields_have_none(self):
        rule = behind_rule()
        rule.yields.append("other")
        self.assertEqual(rule.role("other"), "")

    def test_kinds_that_are_added_later(self):
        rule = behind_rule()
        for field, thing, word in (("ends", "f", "ends"), ("anew", "g", "anew"), ("longer", ("h", 3, 1), "longer")):
            kind = thing if field != "longer" else thing[0]
            self.assertEqual(rule.role(kind), "")
            getattr(rule, field).append(thing)
            self.assertEqual(rule.role(kind), word)
        self.assert_roles(rule, {"appeal": "ends", "f": "ends", "g": "anew", "h": "longer", "i": ""})

    def test_a_role_in_one_rule_is_none_in_another(self):
        one = from_rule()
        other = behind_rule()
        for kind in ("reply", "drop", "amend", "grant", "halt", "resume"):
            self.assertNotEqual(one.role(kind), "")
            self.assertEqual(other.role(kind), "")
        self.assertEqual((one.role("appeal"), other.role("appeal")), ("", "ends"))

    def test_asking_changes_nothing(self):
        rule = from_rule()
        for kind in ("reply", "drop", "amend", "grant", "halt", "resume", "claim", "other"):
            self.assertEqual(rule.role(kind), rule.role(kind))
        same = from_rule()
        for field in FIELDS + LISTS:
            self.assertEqual(getattr(rule, field), getattr(same, field))

    def test_all_kinds_of_a_rule(self):
        kinds = ["amend", "claim", "drop", "grant", "halt", "plea", "reply", "resume", "serve", "settle"]
        rule = from_rule()
        self.assertEqual(sorted(rule.all_kinds()), kinds)
        rule.all_kinds().append("other")
        self.assertEqual(sorted(rule.all_kinds()), kinds)
        self.assertEqual(behind_rule().all_kinds(), ["appeal"])


if __name__ == "__main__":
    unittest.main()
