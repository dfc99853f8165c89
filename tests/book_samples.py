"""Books that several tests hand in: texts, rows, and rules made by hand."""

import random

from termcourt.books import Book
from termcourt.rules import Rule

FIELDS = ("name", "who", "owes", "opens", "base", "many", "unit", "still", "ends", "anew", "longer", "yields")
# A term with a row of each sort, one that hangs on it, and two that are due one kind.
MIXED = """term answer of buyer due reply from claim 14 days
longer answer grant 7 times 2
term appeal of seller due plea behind answer 2 weeks
yields answer default
anew answer amend
ends appeal waive
ends answer settle
still answer halt resume
term default of buyer due reply from warning 40 court
longer answer favour 20 times 3
ends answer drop
still appeal resume halt
anew answer serve
longer appeal amend 1 times 1
yields default answer"""
SHOWN = """term answer of buyer due reply from claim 14 days
ends answer settle
ends answer drop
anew answer amend
anew answer serve
longer answer grant 7 times 2
longer answer favour 20 times 3
still answer halt resume
yields answer default
term appeal of seller due plea behind answer 2 weeks
ends appeal waive
longer appeal amend 1 times 1
still appeal resume halt
term default of buyer due reply from warning 40 court
yields default answer"""
NAMES = ("a", "b", "answer", "abcdefgh", "zzzzzzzz", "term")
KINDS = ("claim", "reply", "plea", "x", "of", "due", "settle", "kindkind")


def fields(rule):
    return {field: getattr(rule, field) for field in FIELDS}


def told(book):
    """All fields of all rules of a book, in their order."""
    return [fields(book.rule_of(name)) for name in book.term_names()]


def from_rule(name, opens="claim", owes="reply", many=10, unit="days", still=None):
    return Rule(name, "buyer", owes, opens, None, many, unit, still)


def behind_rule(name, base, owes="reply", many=10, unit="days", still=None):
    return Rule(name, "buyer", owes, None, base, many, unit, still)


def hung(*bases):
    """Rules named a, b, c and so on, each hanging on the name told at its place (None: on none)."""
    rules = []
    for name, base in zip("abcdefghijklmnopqrstuvwxyz", bases):
        rules.append(from_rule(name) if base is None else behind_rule(name, base))
    return rules


def rule_with(rule, ends=(), anew=(), longer=(), yields=()):
    rule.ends += list(ends)
    rule.anew += list(anew)
    rule.longer += list(longer)
    rule.yields += list(yields)
    return rule


def book_of(*rules):
    return Book(list(rules))


def some_bases(chance, names):
    """For each name one that stands before it or behind it, or None, so that there is no ring."""
    order = chance.sample(names, len(names))
    bases = {order[0]: None}
    for at, name in enumerate(order[1:], 1):
        bases[name] = chance.choice([None, order[at - 1], chance.choice(order[:at])])
    return bases


def term_row(chance, name, base, kinds):
    owes, opens = chance.sample(kinds, 2)
    begin = f"from {opens}" if base is None else f"behind {base}"
    many = chance.choice([1, 2, 3, 5, 9, 10, 14, 40])
    unit = chance.choice(["days", "days", "weeks", "court"])
    return f"term {name} of {chance.choice(NAMES)} due {owes} {begin} {many} {unit}"


def more_rows(chance, name, kinds):
    """Rows of a term, with kinds that have no role in it yet."""
    left = chance.sample(kinds, len(kinds))
    rows = []
    sorts = ["ends", "anew", "longer", "still", "longer", "ends", "anew"]
    for sort in chance.sample(sorts, chance.randint(0, len(sorts))):
        if sort == "still" and len(left) > 1:
            rows.append(f"still {name} {left.pop()} {left.pop()}")
        elif sort == "longer" and left:
            rows.append(f"longer {name} {left.pop()} {chance.choice([1, 3, 7, 20])} times {chance.randint(1, 3)}")
        elif sort in ("ends", "anew") and left:
            rows.append(f"{sort} {name} {left.pop()}")
    return rows


def kinds_of_row(row):
    """The kinds of a term row."""
    words = row.split(" ")
    return [words[5]] + [words[7]] * (words[6] == "from")


def yields_rows(chance, terms):
    """Yields rows, some, between terms that are due one kind."""
    pairs = [(one, other) for one in terms for other in terms
             if one != other and kinds_of_row(terms[one])[0] == kinds_of_row(terms[other])[0]]
    return [f"yields {one} {other}" for one, other in chance.sample(pairs, chance.randint(0, len(pairs)))]


def some_book(chance):
    """A book's rows, mixed by chance."""
    names = chance.sample(NAMES, chance.randint(1, 6))
    bases = some_bases(chance, names)
    kinds = chance.sample(KINDS, chance.randint(3, len(KINDS)))
    terms = {name: term_row(chance, name, bases[name], kinds) for name in names}
    rows = [terms[name] for name in chance.sample(names, len(names))]
    for name in names:
        more = more_rows(chance, name, [kind for kind in kinds if kind not in kinds_of_row(terms[name])])
        for row in more:
            rows.insert(chance.randint(rows.index(terms[name]) + 1, len(rows)), row)
    for row in yields_rows(chance, terms):
        rows.insert(chance.randint(rows.index(terms[row.split(" ")[1]]) + 1, len(rows)), row)
    return rows[:40]


def some_books(seed, turns):
    """Lists of rows that are books, by chance, the same each time."""
    chance = random.Random(seed)
    return [some_book(chance) for turn in range(turns)]


def spoilt(chance, rows):
    """The rows of a book after some small change, which may spoil it or not."""
    rows = list(rows)
    at = chance.randrange(len(rows))
    words = rows[at].split(" ")
    place = chance.randrange(len(words))
    deed = chance.choice(["moved", "twice", "left out", "too few", "too many", "other", "other", "hung"])
    if deed == "moved":
        rows.insert(chance.randint(0, len(rows)), rows.pop(at))
    elif deed == "twice":
        rows.insert(chance.randint(0, len(rows)), rows[at])
    elif deed == "left out":
        rows.pop(at)
    elif deed == "too few":
        rows[at] = " ".join(words[:place] + words[place + 1:])
    elif deed == "too many":
        rows[at] = " ".join(words[:place] + [chance.choice(NAMES + KINDS + ("", "3"))] + words[place:])
    elif deed == "other":
        other = chance.choice(rows).split(" ") + list(NAMES + KINDS)
        words[place] = chance.choice(other + ["0", "03", "41", "21", "4", "", "days", "from"])
        rows[at] = " ".join(words)
    else:
        hung_anew(chance, rows)
    return rows


def hung_anew(chance, rows):
    """Lets a term of a book's rows hang on another one, or on itself."""
    terms = [at for at, row in enumerate(rows) if row.startswith("term ")]
    if terms:
        at = chance.choice(terms)
        words = rows[at].split(" ")
        words[6:8] = ["behind", rows[chance.choice(terms)].split(" ")[1]]
        rows[at] = " ".join(words)
