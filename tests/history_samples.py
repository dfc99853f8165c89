"""Acts, and books with tables, that several tests hand in."""

import random

from book_samples import rule_with, some_books
from calendar_walk import free_by
from table_samples import some_tables
from termcourt.books import Book, read_book
from termcourt.rules import Rule
from termcourt.tables import Table

LETTERS = "abcdefghijklmnopqrstuvwxyz"
# The kinds that a full rule feels besides its kind due: ends, anew, longer twice, still and goes on.
FELT = ("drop", "serve", "grant", "favour", "halt", "resume")


def some_names(chance, many):
    """Names, no two alike, in no order."""
    names = {}
    while len(names) < many:
        names["".join(chance.choice(LETTERS) for k in range(chance.choice([1, 2, 3, 8])))] = True
    return chance.sample(list(names), many)


def some_acts(chance, kinds, many, first=0):
    """Acts of these kinds and of one that no book names, on days near one another, several on one day."""
    days = chance.choice([12, 40, 150, 400])
    kinds = list(kinds) + ["nothing"]
    return [(name, chance.choice(kinds), first + chance.randint(0, days)) for name in some_names(chance, many)]


def with_all_roles(chance, rows):
    """A book of these rows and of some more, so that many of its terms feel acts of all roles."""
    rules = rules_of(read_book("\n".join(rows)))
    for rule in rules:
        if rule.still is None and chance.randint(0, 1):
            rule.still = ("halt", "resume")
        if not rule.longer and chance.randint(0, 1):
            rule_with(rule, longer=[("grant", chance.choice([1, 5, 20]), chance.randint(1, 3))])
        if not rule.anew and chance.randint(0, 2) == 0:
            rule_with(rule, anew=["fresh"])
    return Book(rules)


def some_cases(seed, turns, most_acts=24):
    """Tuples (book, (week, yearly, rows), acts), by chance, the same each time."""
    chance = random.Random(seed)
    tables = some_tables()
    cases = []
    for rows in some_books(seed, turns):
        book = with_all_roles(chance, rows)
        first = chance.choice([0, 0, 3, 350, 365, 6190])
        acts = some_acts(chance, book.act_kinds(), chance.randint(0, most_acts), first)
        cases.append((book, chance.choice(tables), acts))
    return cases


def rich_rules(chance):
    """Rules with a kind of each role, whose terms hang on one another or begin by two kinds."""
    rules = []
    for name in chance.sample("abcdef", chance.randint(1, 6)):
        base = chance.choice([None] + [rule.name for rule in rules] * 2)
        many = chance.choice([1, 3, 5, 10, 25])
        unit = chance.choice(["days", "court", "weeks"])
        # Where the kinds are mixed, one act has unlike roles in unlike terms.
        kinds = chance.choice([FELT, FELT, chance.sample(FELT, len(FELT))])
        rules.append(full_rule(name, chance.choice(["claim", "cry"]), base, many, unit, kinds))
    return chance.sample(rules, len(rules))


def rich_cases(seed, turns, most_acts=24):
    """As some_cases, but with acts that seldom end a run, so that much is done to each."""
    chance = random.Random(seed)
    tables = some_tables()
    kinds = ["claim", "cry", "grant", "favour", "serve"] + ["halt", "resume"] * 3 + ["reply", "drop", "nothing"]
    cases = []
    for turn in range(turns):
        first = chance.choice([0, 0, 3, 350, 365, 6190])
        days = chance.choice([12, 40, 150])
        names = some_names(chance, chance.randint(2, most_acts))
        acts = [(name, chance.choice(kinds), first + chance.randint(1, days)) for name in names[2:]]
        acts += [(names[0], "claim", first), (names[1], "cry", first + chance.randint(0, 3))]
        cases.append((Book(rich_rules(chance)), chance.choice(tables), chance.sample(acts, len(acts))))
    return cases


def rules_of(book):
    return [book.rule_of(name) for name in book.term_names()]


def table_and_free(told):
    """The table of a tuple (week, yearly, rows), and the walk's own way to tell its free days."""
    return Table(*told), free_by(*told)


def acts_moved(acts, move):
    return [(name, kind, day + move) for name, kind, day in acts]


def day_moved(day, move):
    return None if day is None else day + move


def accounts_moved(accounts, move):
    moved = []
    for act, word, start, units, pauses, last, rows in accounts:
        pauses = [(first + move, day_moved(end, move)) for first, end in pauses]
        rows = [(name, day + move, role) for name, day, role in rows]
        moved.append((act, word, day_moved(start, move), units, pauses, day_moved(last, move), rows))
    return moved


def history_moved(history, move):
    return {term: accounts_moved(accounts, move) for term, accounts in history.items()}


def full_rule(name="a", opens="claim", base=None, many=10, unit="days", kinds=FELT):
    """A rule with a kind of each role."""
    drop, serve, grant, favour, halt, resume = kinds
    rule = Rule(name, "buyer", "reply", opens if base is None else None, base, many, unit, (halt, resume))
    return rule_with(rule, [drop], [serve], [(grant, 5, 2), (favour, 3, 1)])
