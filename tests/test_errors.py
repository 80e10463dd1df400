import unittest

from solvedplay.errors import BadChange, BadRow, Busy, NoEdition, NoGame, NoMove, NoStanding, TooMany

BASES = [(BadRow, ValueError), (BadChange, ValueError), (NoMove, LookupError), (NoGame, LookupError),
         (NoStanding, LookupError), (NoEdition, LookupError), (TooMany, OverflowError), (Busy, RuntimeError)]

THINGS = [0, -3, 400, True, None, "", "toy", (), (0, "a", "b"), ((0, "ab"), None), ["rule", 0, "a", "b"]]


class Errors(unittest.TestCase):
    def test_each_is_straight_under_its_base(self):
        for refusal, base in BASES:
            self.assertEqual(refusal.__bases__, (base,), refusal)

    def test_names(self):
        names = ["BadRow", "BadChange", "NoMove", "NoGame", "NoStanding", "NoEdition", "TooMany", "Busy"]
        self.assertEqual([refusal.__name__ for refusal, base in BASES], names)

    def test_none_is_under_another(self):
        for refusal, base in BASES:
            for other, other_base in BASES:
                self.assertEqual(issubclass(refusal, other), refusal == other, (refusal, other))

    def test_what_by_place_and_by_name(self):
        for refusal, base in BASES:
            for thing in THINGS:
                for made in (refusal(thing), refusal(what=thing)):
                    self.assertEqual(made.what, thing)
                    self.assertEqual(type(made.what), type(thing))

    def test_two_have_each_its_own_what(self):
        for refusal, base in BASES:
            one, other = refusal(1), refusal(what=2)
            self.assertEqual((one.what, other.what), (1, 2))

    def test_raised_and_caught_by_its_base(self):
        for refusal, base in BASES:
            with self.assertRaises(base) as caught:
                raise refusal(("what", 7))
            self.assertEqual(caught.exception.what, ("what", 7))
            with self.assertRaises(refusal) as caught:
                raise refusal(what="named")
            self.assertEqual(caught.exception.what, "named")


if __name__ == "__main__":
    unittest.main()
