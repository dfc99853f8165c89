"""The order of hanging: each term stands behind the one that it hangs on."""

from termcourt.errors import Ring


def hanging_order(rules):
    bases = {}
    for rule in rules:
        bases[rule.name] = rule.base
    taken = []
    for rule in rules:
        taken += list(reversed(untaken(rule.name, bases, taken)))
    return taken


def untaken(name, bases, taken):
    """This term and those above it that are not taken yet, each hanging on the next one."""
    path = []
    above = name
    while above is not None and above not in taken:
        # What lies ahead of the name in the path hangs on the ring and is not in it.
        if above in path:
            raise Ring(path[path.index(above):])
        path.append(above)
        above = bases[above]
    return path
