import unittest

from hearsay.errors import HearError
from hearsay.nets import check_net
from hearsay.tales import check_tale
from tests.helper import REFUSALS

NET = (2, [(0, 1, 2)])

# One input for each refusal, in the order of REFUSALS.
REFUSED = (
    (check_net, (0, [])),
    (check_tale, NET, (1, [(1, 0, 0, 1)], [])),
    (check_tale, NET, (61, [], [])),
    (check_tale, NET, (1, [], [(0, 0, "a"), (0, 0, "a")])),
    (check_tale, NET, (2, [], [])),
)


class Errors(unittest.TestCase):
    def test_any_refusal_is_a_value_error(self):
        self.assertEqual((ValueError,), HearError.__bases__)

    def test_each_stands_under_hear_error_alone(self):
        for refused in REFUSALS:
            self.assertEqual((HearError,), refused.__bases__)

    def test_what_is_raised_is_one_refusal_and_none_of_the_others(self):
        for place, case in enumerate(REFUSED):
            with self.assertRaises(ValueError) as caught:
                case[0](*case[1:])
            self.assertIsInstance(caught.exception, HearError)
            found = [isinstance(caught.exception, refused) for refused in REFUSALS]
            self.assertEqual([other == place for other in range(len(REFUSALS))], found)


if __name__ == "__main__":
    unittest.main()
