"""Runs and histories by the words of [28] to [32], act after act, with last days found day after day.

This is what the program is held against, so nothing of the program is used here but the fields of rules.
A run is a dict. At each act all starts and last days are looked up before it works on any run.
"""

import functools

from term_walk import walk


def role(rule, kind):
    roles = [(rule.owes, "ends")] + [(other, "ends") for other in rule.ends] + [(other, "anew") for other in rule.anew]
    roles += [(row[0], "longer") for row in rule.longer]
    roles += list(zip(rule.still or (), ("still", "goes on")))
    return dict(reversed(roles)).get(kind, "")


def order(rules):
    """The order of hanging, [26] word for word."""
    bases = {rule.name: rule.base for rule in rules}
    taken = []

    def take(name):
        if name is not None and name not in taken:
            take(bases[name])
            taken.append(name)

    for name in bases:
        take(name)
    return taken


class Walk:
    """The terms of some rules by one table; free tells of a day whether it is free."""

    def __init__(self, rules, free):
        self.rules = {name: rule for name in order(rules) for rule in rules if rule.name == name}
        self.runs = {name: [] for name in self.rules}
        self.last_by = functools.lru_cache(maxsize=None)(
            lambda unit, start, units, pauses: walk(unit, start, units, pauses, free)[1])

    def start(self, run):
        return run["day"] if run["base"] is None else self.last(run["base"])

    def last(self, run):
        if self.start(run) is None:
            return None
        return self.last_by(run["rule"].unit, self.start(run), run["units"], tuple(run["pauses"]))

    def begun(self, term, name, day, base):
        rule = self.rules[term]
        return {"rule": rule, "base": base, "day": day, "units": rule.many, "pauses": [], "longer": [], "over": False,
                "rows": [(name, day, "begins")]}

    def take(self, act):
        name, kind, day = act
        running = {term: runs[-1] for term, runs in self.runs.items() if runs and not runs[-1]["over"]}
        days = {term: (self.start(run), self.last(run)) for term, run in running.items()}
        new = {}
        for term, rule in self.rules.items():
            if term in running:
                word = role(rule, kind)
                if word and self.works(running[term], word, kind, day, *days[term]):
                    running[term]["rows"].append((name, day, word))
            elif rule.opens == kind or rule.base in new:
                new[term] = self.begun(term, name, day, new.get(rule.base))
        for term, run in new.items():
            self.runs[term].append(run)

    def works(self, run, word, kind, day, start, last):
        """Whether the act did something."""
        goes_on = any(pause[1] is None for pause in run["pauses"])
        if word == "ends":
            run["over"] = True
            self.close(run, day)
            return True
        if start is None or not start < day or (last is not None and last < day):
            return False
        if word == "anew":
            run.update(base=None, day=day, units=run["rule"].many, pauses=[], longer=[])
            return True
        if word == "longer":
            units, times = [(row[1], row[2]) for row in run["rule"].longer if row[0] == kind][0]
            if run["longer"].count(kind) >= times:
                return False
            run["longer"].append(kind)
            run["units"] += units
            return True
        if word == "still" and not goes_on:
            run["pauses"] = run["pauses"] + [(day, None)]
            return True
        if word == "goes on" and goes_on:
            self.close(run, day)
            return True
        return False

    def close(self, run, day):
        closed = [(first, day - 1 if last is None else last) for first, last in run["pauses"]]
        run["pauses"] = [(first, last) for first, last in closed if first <= last]

    def account(self, run):
        last = self.last(run)
        word = "over" if run["over"] else "stands" if last is None else "runs"
        return (run["rows"][0][0], word, self.start(run), run["units"], list(run["pauses"]), last, list(run["rows"]))


def history(rules, free, acts):
    walked = Walk(rules, free)
    for act in sorted(acts, key=lambda act: (act[2], act[0])):
        walked.take(act)
    return {term: [walked.account(run) for run in runs] for term, runs in walked.runs.items()}
