"""Books of rules: made of rules, read from a text, shown as a text."""

from termcourt.errors import NoRule, NoTerm, Twice, Unfit
from termcourt.figures import number
from termcourt.hanging import hanging_order
from termcourt.rules import Rule
from termcourt.wholes import is_name

MOST_ROWS = 40
MOST_TERMS = 6
MOST_LONGER_ROWS = 2
UNITS = ("days", "weeks", "court")
# The forms of rows: a whole number stands for a number from 1 to itself, small letters for themselves.
FORMS = (
    ("term", "NAME", "of", "NAME", "due", "NAME", "from", "NAME", 40, "UNIT"),
    ("term", "NAME", "of", "NAME", "due", "NAME", "behind", "NAME", 40, "UNIT"),
    ("ends", "NAME", "NAME"),
    ("anew", "NAME", "NAME"),
    ("longer", "NAME", "NAME", 20, "times", 3),
    ("still", "NAME", "NAME", "NAME"),
    ("yields", "NAME", "NAME"),
)


class Book:
    """The rules of terms, by their names, in the order in which they were told."""

    def __init__(self, rules):
        self.order = hanging_order(rules)
        self.by_name = {}
        for rule in rules:
            self.by_name[rule.name] = rule

    def term_names(self):
        return list(self.by_name)

    def hanging(self):
        return list(self.order)

    def rule_of(self, name):
        if name not in self.by_name:
            raise NoTerm(name)
        return self.by_name[name]

    def act_kinds(self):
        kinds = []
        for rule in self.by_name.values():
            kinds += rule.all_kinds()
        return sorted(set(kinds))


def read_book(text):
    told = {}
    rows = []
    for at, line in enumerate(lines_of(text)):
        row = row_of(line)
        if at == MOST_ROWS or row is None:
            raise NoRule(at)
        read_row(told, at, row)
        rows.append(row)
    # Only now is it known which names are terms', since a later row may tell them.
    for at, row in enumerate(rows):
        settle_names(told, at, row)
    return Book(list(told.values()))


def lines_of(text):
    # Python would part the text without signs into one row.
    return text.split("\n") if text else []


def row_of(line):
    """The words of the line, its numbers as whole numbers; None where the line is no row."""
    words = line.split(" ")
    for form in FORMS:
        if len(words) == len(form):
            row = [value_of(word, asked) for word, asked in zip(words, form)]
            if None not in row:
                return row
    return None


def value_of(word, asked):
    """What the word tells where a form asks this, None where it is no such word."""
    if isinstance(asked, int):
        return number(word, asked)
    if asked == "NAME":
        return word if is_name(word) else None
    if asked == "UNIT":
        return word if word in UNITS else None
    return word if word == asked else None


def read_row(told, at, row):
    if row[0] == "term":
        read_term(told, at, row)
    elif row[1] not in told:
        raise NoTerm(row[1])
    else:
        read_more(told[row[1]], at, row)


def read_term(told, at, row):
    name = row[1]
    if name in told:
        raise Twice(name)
    opens = row[7] if row[6] == "from" else None
    base = row[7] if row[6] == "behind" else None
    rule = Rule(name, row[3], row[5], opens, base, row[8], row[9])
    if len(told) == MOST_TERMS or rule.owes == rule.opens:
        raise Unfit(at)
    told[name] = rule


def read_more(rule, at, row):
    """Adds to the rule what a row behind its term row tells; yields rows are settled at the end."""
    if is_unfit(rule, row):
        raise Unfit(at)
    if row[0] == "ends":
        rule.ends.append(row[2])
    elif row[0] == "anew":
        rule.anew.append(row[2])
    elif row[0] == "longer":
        rule.longer.append((row[2], row[3], row[5]))
    elif row[0] == "still":
        rule.still = (row[2], row[3])


def is_unfit(rule, row):
    taken = rule.all_kinds()
    if any([kind in taken for kind in kinds_in(row)]):
        return True
    if row[0] == "still":
        return rule.still is not None or row[2] == row[3]
    return row[0] == "longer" and len(rule.longer) == MOST_LONGER_ROWS


def kinds_in(row):
    """The kinds in a row that is no term row."""
    if row[0] == "yields":
        return []
    return row[2:4] if row[0] == "still" else row[2:3]


def settle_names(told, at, row):
    """Looks up the names of other terms in a row; only a yields row has to be added then."""
    rule = told[row[1]]
    if row[0] == "term" and rule.base is not None and rule.base not in told:
        raise NoTerm(rule.base)
    if row[0] == "yields":
        settle_yields(told, rule, at, row[2])


def settle_yields(told, rule, at, other):
    if other not in told:
        raise NoTerm(other)
    if other == rule.name or other in rule.yields or told[other].owes != rule.owes:
        raise Unfit(at)
    rule.yields.append(other)


def show_book(book):
    rows = []
    for name in book.term_names():
        rows += rows_shown(book.rule_of(name))
    return "\n".join(rows)


def rows_shown(rule):
    name = rule.name
    rows = [term_row_shown(rule)]
    rows += [f"ends {name} {kind}" for kind in rule.ends]
    rows += [f"anew {name} {kind}" for kind in rule.anew]
    rows += [f"longer {name} {kind} {units} times {times}" for kind, units, times in rule.longer]
    if rule.still is not None:
        rows.append(" ".join(["still", name, rule.still[0], rule.still[1]]))
    rows += [f"yields {name} {other}" for other in rule.yields]
    return rows


def term_row_shown(rule):
    begin = ["from", rule.opens] if rule.base is None else ["behind", rule.base]
    return " ".join(["term", rule.name, "of", rule.who, "due", rule.owes] + begin + [str(rule.many), rule.unit])
