import unittest

from sealedkinds import errors

ABOVE = {
    ValueError: ("BadText", "BadRow", "Faulty", "Unlike"),
    TypeError: ("Clash", "NotNum", "NoWear"),
    LookupError: ("Unknown", "NoPlace", "NoSeal", "NoModule", "NoValue", "NoEdition"),
    RuntimeError: ("Met", "Bare", "Ring", "InUse", "Busy"),
    OverflowError: ("TooLong",),
}


class Errors(unittest.TestCase):
    def test_each_stands_straight_under_the_one_told(self):
        many = 0
        for above, names in ABOVE.items():
            for name in names:
                many += 1
                refusal = getattr(errors, name)
                self.assertEqual(refusal.__bases__, (above,), name)
                self.assertEqual(refusal.__name__, name)
                self.assertEqual(refusal.__module__, "sealedkinds.errors")
        self.assertEqual(many, 19)

    def test_each_is_made_with_its_one_field(self):
        for names in ABOVE.values():
            for name in names:
                for what in ("a text", (0, 1), 7, None, ("m", ("def", "x")), ()):
                    refusal = getattr(errors, name)(what)
                    self.assertEqual(refusal.what, what)
                    self.assertEqual(vars(refusal), {"what": what})

    def test_each_is_caught_by_its_own_class_alone(self):
        all_of = [getattr(errors, name) for names in ABOVE.values() for name in names]
        for one in all_of:
            for other in all_of:
                self.assertEqual(issubclass(one, other), one == other)
        for one in all_of:
            with self.assertRaises(one) as caught:
                raise one("what")
            self.assertEqual(caught.exception.what, "what")


if __name__ == "__main__":
    unittest.main()
