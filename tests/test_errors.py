"""The refusals: all thirteen, and what takes them."""

import unittest

from noteworth import errors

NAMES = (
    "BadSign", "BadWord", "BadName", "NameTaken", "Full", "NoVoice", "NotPlain",
    "NoPlace", "BadTerm", "Leaned", "NoMore", "Closed", "BadRow",
)
PLACED = ("BadWord", "BadRow")


def made(name):
    refusal = getattr(errors, name)
    return refusal(7) if name in PLACED else refusal("words")


def is_taken(name, taker):
    """Tell whether a handler for the taker takes the refusal of that name."""
    try:
        raise made(name)
    except taker:
        return True
    except Exception:
        return False


class RefusalTest(unittest.TestCase):
    def test_thirteen(self):
        self.assertEqual(len(set(NAMES)), 13)
        self.assertEqual(len({getattr(errors, name) for name in NAMES}), 13)

    def test_note_error_is_a_value_error(self):
        self.assertTrue(issubclass(errors.NoteError, ValueError))
        self.assertIsNot(errors.NoteError, ValueError)
        self.assertNotIn(errors.NoteError, [getattr(errors, name) for name in NAMES])

    def test_each_is_taken_by_its_own_and_by_those_above(self):
        for name in NAMES:
            with self.subTest(name):
                self.assertTrue(is_taken(name, getattr(errors, name)))
                self.assertTrue(is_taken(name, errors.NoteError))
                self.assertTrue(is_taken(name, ValueError))

    def test_none_is_taken_by_another(self):
        for name in NAMES:
            for other in NAMES:
                if other != name:
                    with self.subTest(name, other=other):
                        self.assertFalse(is_taken(name, getattr(errors, other)))

    def test_a_plain_value_error_is_no_refusal(self):
        self.assertFalse(issubclass(ValueError, errors.NoteError))

    def test_at_is_set_when_made(self):
        for refusal in (errors.BadWord, errors.BadRow):
            for at in (0, 1, 12, 399, 100000):
                with self.subTest(refusal.__name__, at=at):
                    self.assertEqual(refusal(at).at, at)

    def test_at_is_kept_by_each_object(self):
        for refusal in (errors.BadWord, errors.BadRow):
            one, other = refusal(3), refusal(4)
            self.assertEqual((one.at, other.at), (3, 4))

    def test_each_bears_the_name_that_it_is_called_by(self):
        # The desk tells refusals by their names.
        for name in NAMES:
            self.assertEqual(getattr(errors, name).__name__, name)


if __name__ == "__main__":
    unittest.main()
