"""Stretches of days, and rows, which are stretches with a word: laid together and looked up.

Both may have any number of days, so just their ends are reckoned with.
"""

from termcourt.wholes import is_whole


def is_stretch_of(first, last, most):
    """Whether these two, of any kind, are a stretch of days from 0 on, at most so many."""
    if not (is_whole(first) and is_whole(last)):
        return False
    return 0 <= first <= last < first + most


def merged(stretches):
    told = []
    for first, last in sorted(stretches):
        # Those that touch are one stretch, so the day behind the last one counts as reached.
        if told and first <= told[-1][1] + 1:
            told[-1] = (told[-1][0], max(told[-1][1], last))
        else:
            told.append((first, last))
    return told


def place(stretches, day):
    low = 0
    high = len(stretches)
    while low < high:
        middle = (low + high) // 2
        if stretches[middle][1] < day:
            low = middle + 1
        else:
            high = middle
    return low


def overlay(rows):
    laid = []
    for first, last, word in rows:
        laid = laid_over(laid, first, last, word)
    return joined(laid)


def laid_over(laid, first, last, word):
    """Sorted rows without common days, after one more was laid over them."""
    begin = place(laid, first)
    end = place(laid, last + 1)
    told = laid[:begin]
    if begin < len(laid) and laid[begin][0] < first:
        told.append((laid[begin][0], first - 1, laid[begin][2]))
    told.append((first, last, word))
    if end < len(laid) and laid[end][0] <= last:
        told.append((last + 1, laid[end][1], laid[end][2]))
        end += 1
    return told + laid[end:]


def joined(laid):
    """Sorted rows without common days, those that touch and have one word made one."""
    told = []
    for first, last, word in laid:
        if told and told[-1][2] == word and told[-1][1] + 1 == first:
            told[-1] = (told[-1][0], last, word)
        else:
            told.append((first, last, word))
    return told
