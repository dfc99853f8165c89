"""Tests of answers that come at once: what is walked day by day instead fails, and does not hang."""

import signal
import unittest

MOST_SECONDS = 60


def too_long(number, frame):
    raise TimeoutError("the answer did not come at once")


class AtOnce(unittest.TestCase):
    """Each test has a minute, far more than short reckoning needs and far less than any walk of such days."""

    def setUp(self):
        self.earlier = signal.signal(signal.SIGALRM, too_long)
        signal.alarm(MOST_SECONDS)

    def tearDown(self):
        signal.alarm(0)
        signal.signal(signal.SIGALRM, self.earlier)
