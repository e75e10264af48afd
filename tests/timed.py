import signal
import unittest

# Each test here is answered within a second; what goes on for longer hangs on how great the numbers are.
SECONDS = 30


class TimedCase(unittest.TestCase):
    """A test that fails, in the place of waiting for ever, where an answer does not come."""

    def setUp(self):
        before = signal.signal(signal.SIGALRM, self.fail_as_late)
        self.addCleanup(signal.signal, signal.SIGALRM, before)
        signal.alarm(SECONDS)
        self.addCleanup(signal.alarm, 0)

    def fail_as_late(self, number, frame):
        self.fail(f"no answer within {SECONDS} seconds")
