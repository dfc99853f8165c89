"""Things that several tests hand in."""


def not_wholes():
    """Things that are no whole numbers, made anew for each asker."""
    return [
        None, True, False,
        "", "0", "1", "7", "a", " 1", "1\n",
        [], [0], [1], [None],
        (), (0,), (1,), (0, 1, 1),
        {}, {1: 1}, {"a": 1},
        0.0, 1.0, 2.5, float("inf"), float("nan"), 1 + 0j,
        b"", b"1", set(), {1}, range(3), object(), int, len,
    ]


def written(figures):
    """A whole number of just so many figures, none of them alike to its neighbour."""
    return int(("8192750364" * figures)[:figures])


def wholes_of_all_sizes(most=300):
    """Whole numbers from 0 on, some of each number of figures from 1 to most."""
    numbers = [0]
    for figures in range(1, most + 1):
        least = 10 ** (figures - 1)
        numbers += [least, least + 1, written(figures), 10 * least - 2, 10 * least - 1]
    return numbers
