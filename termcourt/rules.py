"""Rules: what a book tells of one term."""


class Rule:
    """One term's rule. Who makes it adds to ends, anew, longer and yields ahead of its use."""

    def __init__(self, name, who, owes, opens, base, many, unit, still=None):
        self.name = name
        self.who = who
        self.owes = owes
        self.opens = opens
        self.base = base
        self.many = many
        self.unit = unit
        self.still = still
        self.ends = []
        self.anew = []
        self.longer = []
        self.yields = []

    def role(self, kind):
        if kind == self.owes or kind in self.ends:
            return "ends"
        if kind in self.anew:
            return "anew"
        if kind in [row[0] for row in self.longer]:
            return "longer"
        return self.role_in_still(kind)

    def role_in_still(self, kind):
        if self.still is None:
            return ""
        if kind == self.still[0]:
            return "still"
        return "goes on" if kind == self.still[1] else ""

    def all_kinds(self):
        """Every kind that has a role in the term's rows, the from kind, too."""
        kinds = [self.owes] + self.ends + self.anew + [row[0] for row in self.longer]
        if self.opens is not None:
            kinds.append(self.opens)
        if self.still is not None:
            kinds.extend(self.still)
        return kinds
