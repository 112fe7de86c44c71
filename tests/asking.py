"""What the test cases have in common."""

import unittest


class Asking(unittest.TestCase):
    """Answers and errors are compared by kind, too: True is not 1, and a list is no tuple."""

    def same(self, found, wanted):
        self.assertEqual(repr(found), repr(wanted))

    def raises(self, error, call, *args, field=None, worth=None, **more):
        """The call raises exactly this error, with this worth in its field."""
        try:
            found = call(*args, **more)
        except ValueError as caught:
            self.assertIs(type(caught), error)
            if field is not None:
                self.same(getattr(caught, field), worth)
            return
        self.fail(f"{call.__name__} raised no {error.__name__}, but answered {found!r}"[:500])
