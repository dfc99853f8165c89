"""Runs: a term from the act that begins it to the one that ends it."""

from termcourt.kinds import kind_of
from termcourt.spans import last_day


class Run:
    """One run of a rule's term, which feels acts in their order.

    While it hangs on a base, its start is asked of the base each time, so that it moves along.
    """

    def __init__(self, rule, table, name, day, base=None):
        self.rule = rule
        self.counting = kind_of(rule.unit, table)
        self.rows = [(name, day, "begins")]
        self.over = False
        self.set_out(day, base)

    def set_out(self, day, base):
        self.day = day
        self.base = base
        self.units = self.rule.many
        self.pauses = []
        self.grants = {}

    def starts_on(self):
        return self.day if self.base is None else self.base.lasts_to()

    def lasts_to(self):
        start = self.starts_on()
        if start is None:
            return None
        return last_day(self.counting, start, self.units, self.pauses)

    def is_over(self):
        return self.over

    def feel(self, name, day, kind):
        word = self.rule.role(kind)
        if word == "" or self.over or not self.works(word, day, kind):
            return False
        self.rows.append((name, day, word))
        return True

    def works(self, word, day, kind):
        """Lets an act of this role work, and tells whether it did something."""
        if word == "ends":
            return self.finish(day)
        if not self.is_under_way(day):
            return False
        if word == "anew":
            return self.begin_anew(day)
        if word == "longer":
            return self.lengthen(kind)
        return self.halt(day) if word == "still" else self.go_on(day)

    def is_under_way(self, day):
        start = self.starts_on()
        if start is None or day <= start:
            return False
        last = self.lasts_to()
        return last is None or day <= last

    def is_halted(self):
        return len(self.pauses) > 0 and self.pauses[-1][1] is None

    def finish(self, day):
        self.go_on(day)
        self.over = True
        return True

    def begin_anew(self, day):
        # Without its base the start moves along no more.
        self.set_out(day, None)
        return True

    def lengthen(self, kind):
        done = self.grants.get(kind, 0)
        for other, units, times in self.rule.longer:
            if other == kind and done < times:
                self.grants[kind] = done + 1
                self.units += units
                return True
        return False

    def halt(self, day):
        if self.is_halted():
            return False
        self.pauses.append((day, None))
        return True

    def go_on(self, day):
        if not self.is_halted():
            return False
        first = self.pauses.pop()[0]
        # A pause without any day is none.
        if first < day:
            self.pauses.append((first, day - 1))
        return True

    def account(self):
        start = self.starts_on()
        last = self.lasts_to()
        return (self.rows[0][0], self.state_word(last), start, self.units, list(self.pauses), last, list(self.rows))

    def state_word(self, last):
        if self.over:
            return "over"
        return "stands" if last is None else "runs"
