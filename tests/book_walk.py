"""Books by the words of [23] to [27], each row held against a pattern.

This is what the program's reading is held against, so nothing of the program is used here.
A term is a dict with the fields of its rule.
"""

import re

NAME = "([a-z]{1,8})"
UNITS = "(days|weeks|court)"
TERM = f"term {NAME} of {NAME} due {NAME} (from|behind) {NAME} ([1-9]|[123][0-9]|40) {UNITS}"
MORE = {
    "ends": f"ends {NAME} {NAME}",
    "anew": f"anew {NAME} {NAME}",
    "longer": f"longer {NAME} {NAME} ([1-9]|1[0-9]|20) times ([123])",
    "still": f"still {NAME} {NAME} {NAME}",
    "yields": f"yields {NAME} {NAME}",
}
KINDS_IN = {"ends": 1, "anew": 1, "longer": 1, "still": 2, "yields": 0}


class Refused(Exception):
    """Made with the name of the refusal and its field's value (of a ring, nothing)."""


def sort_of(row):
    """The row's sort and what its words tell, or two times None."""
    found = re.fullmatch(TERM, row)
    if found:
        return "term", found.groups()
    for sort, pattern in MORE.items():
        found = re.fullmatch(pattern, row)
        if found:
            return sort, found.groups()
    return None, None


def term_of(words):
    name, who, owes, how, other, many, unit = words
    return {
        "name": name, "who": who, "owes": owes, "opens": other if how == "from" else None,
        "base": other if how == "behind" else None, "many": int(many), "unit": unit, "still": None,
        "ends": [], "anew": [], "longer": [], "yields": [],
    }


def roles(term):
    """Each kind of the term as often as it has a role."""
    kinds = [term["owes"], term["opens"]] + term["ends"] + term["anew"] + [row[0] for row in term["longer"]]
    return [kind for kind in kinds + list(term["still"] or ()) if kind is not None]


def add_more(term, at, sort, words):
    if sort == "still":
        if term["still"]:
            raise Refused("Unfit", at)
        term["still"] = (words[1], words[2])
    elif sort == "longer":
        term["longer"].append((words[1], int(words[2]), int(words[3])))
        if len(term["longer"]) > 2:
            raise Refused("Unfit", at)
    elif sort != "yields":
        term[sort].append(words[1])
    if len(roles(term)) != len(set(roles(term))):
        raise Refused("Unfit", at)


def first_reading(rows):
    terms = {}
    for at, row in enumerate(rows):
        sort, words = sort_of(row)
        if sort is None or at > 39:
            raise Refused("NoRule", at)
        if sort == "term":
            if words[0] in terms:
                raise Refused("Twice", words[0])
            terms[words[0]] = term_of(words)
            if len(terms) > 6 or words[2] == terms[words[0]]["opens"]:
                raise Refused("Unfit", at)
        else:
            if words[0] not in terms:
                raise Refused("NoTerm", words[0])
            add_more(terms[words[0]], at, sort, words)
    return terms


def second_reading(rows, terms):
    for at, row in enumerate(rows):
        sort, words = sort_of(row)
        if sort == "term" and words[3] == "behind" and words[4] not in terms:
            raise Refused("NoTerm", words[4])
        if sort == "yields":
            name, other = words
            if other not in terms:
                raise Refused("NoTerm", other)
            terms[name]["yields"].append(other)
            if terms[name]["yields"].count(other) > 1 or other == name or terms[name]["owes"] != terms[other]["owes"]:
                raise Refused("Unfit", at)


def above(terms, name):
    """The terms above a term, from the one that it hangs on; a name stands there twice where there is a ring."""
    path = []
    base = terms[name]["base"]
    while base is not None:
        path.append(base)
        if path.count(base) > 1:
            return path
        base = terms[base]["base"]
    return path


def in_rings(terms):
    """The names of the terms that are part of a ring, of whatever ring."""
    return {name for name in terms if name in above(terms, name)}


def read(text):
    """The terms of a book's text, in a dict; or Refused."""
    rows = text.split("\n") if text else []
    terms = first_reading(rows)
    second_reading(rows, terms)
    if in_rings(terms):
        raise Refused("Ring", None)
    return terms


def hanging(terms):
    """The names in the order of hanging: each with those above it that are not taken yet in front."""
    taken = []
    for name in terms:
        for one in list(reversed(above(terms, name))) + [name]:
            if one not in taken:
                taken.append(one)
    return taken


def shown(terms):
    rows = []
    for name, term in terms.items():
        begin = f"from {term['opens']}" if term["base"] is None else f"behind {term['base']}"
        rows.append(f"term {name} of {term['who']} due {term['owes']} {begin} {term['many']} {term['unit']}")
        for sort in ("ends", "anew"):
            rows += [f"{sort} {name} {kind}" for kind in term[sort]]
        rows += [f"longer {name} {kind} {units} times {times}" for kind, units, times in term["longer"]]
        rows += [f"still {name} {first} {second}" for first, second in [term["still"]] * bool(term["still"])]
        rows += [f"yields {name} {other}" for other in term["yields"]]
    return "\n".join(rows)
