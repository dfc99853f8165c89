"""Histories: what acts, taken in their order, do to the terms of a book."""

from termcourt.runs import Run


def in_order(acts):
    return sorted(acts, key=lambda act: (act[2], act[0]))


def history(book, table, acts):
    runs = {}
    for term in book.hanging():
        runs[term] = []
    for act in in_order(acts):
        take(book, table, runs, act)
    told = {}
    for term in runs:
        told[term] = [run.account() for run in runs[term]]
    return told


def take(book, table, runs, act):
    """Lets one act work on all terms; runs has the runs of each, in the order of hanging."""
    name = act[0]
    kind = act[1]
    day = act[2]
    begun = {}
    for term in runs:
        rule = book.rule_of(term)
        # A term that runs does not begin by this act, even if the act ends it.
        if is_running(runs[term]):
            runs[term][-1].feel(name, day, kind)
        elif kind == rule.opens or rule.base in begun:
            begun[term] = Run(rule, table, name, day, begun.get(rule.base))
    for term in begun:
        runs[term].append(begun[term])


def is_running(runs):
    return len(runs) > 0 and not runs[-1].is_over()
