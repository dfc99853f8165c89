"""One term: the day on which it is full, its last day, and what each of its days is to it.

Days are leapt over from pause to pause and reckoned between them; the marks alone walk them.
"""

from termcourt.stretches import joined


def still_on(pauses, day):
    return any([lies_in(first, last, day) for first, last in pauses])


def lies_in(first, last, day):
    """Whether a day lies in a pause, which goes on for ever where it has no last day."""
    return first <= day and (last is None or day <= last)


def full_day(kind, start, units, pauses):
    left = kind.days_for(units)
    begin = start + 1
    for first, last in pauses:
        counted = kind.counted_in(begin, first - 1)
        if counted >= left:
            break
        if last is None:
            return None
        left -= counted
        # A pause may end earlier than the term begins.
        begin = max(begin, last + 1)
    return kind.reach(begin, left)


def last_day(kind, start, units, pauses):
    full = full_day(kind, start, units, pauses)
    if full is None:
        return None
    return first_due(kind.table, full, pauses)


def first_due(table, day, pauses):
    """The first day from this one on that is neither free nor stands still, None where there is none."""
    told = table.next_open(day)
    # What is told only grows, and pauses are sorted, so none has to be looked at again.
    for first, last in pauses:
        if told < first:
            break
        if last is None:
            return None
        if told <= last:
            told = table.next_open(last + 1)
    return told


def marks(kind, start, units, pauses):
    full = full_day(kind, start, units, pauses)
    last = last_day(kind, start, units, pauses)
    if last is None:
        return []
    return joined([(day, day, word_on(kind, full, pauses, day)) for day in range(start + 1, last + 1)])


def word_on(kind, full, pauses, day):
    if still_on(pauses, day):
        return "still"
    if day > full:
        return "waits"
    return "counts" if kind.counts_day(day) else "free"
