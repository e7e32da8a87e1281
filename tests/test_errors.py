"""overrounds.errors: what each error is derived from and what it keeps."""

import unittest

from overrounds import errors

ROUND_ERRORS = ("InvalidOperation", "InvalidLoop", "InvalidMachine", "InvalidSpans", "InvalidWiring", "InvalidKernel",
                "InvalidArgument")
OWN_BASES = {
    "UnknownName": (KeyError, "wanted"), "InvalidNumber": (RuntimeError, "value"), "TooMany": (OverflowError, "limit"),
    "NothingToUndo": (IndexError, "many"),
}
TOLD = (None, True, 0, -5, 10 ** 39, "text", "", ("a", 1), ["a"], {"a": [1]}, ())


class Bases(unittest.TestCase):
    def test_each_error_is_derived_directly(self):
        self.assertEqual(errors.RoundError.__bases__, (ValueError,))
        for name in (*ROUND_ERRORS, "ParseError"):
            self.assertEqual(getattr(errors, name).__bases__, (errors.RoundError,), name)
        for name, (base, _) in OWN_BASES.items():
            self.assertEqual(getattr(errors, name).__bases__, (base,), name)
        self.assertEqual(errors.Broken.__bases__, (ArithmeticError,))

    def test_five_are_no_round_errors(self):
        for name in (*OWN_BASES, "Broken"):
            self.assertFalse(issubclass(getattr(errors, name), errors.RoundError), name)

    def test_each_is_defined_in_the_module(self):
        for name in ("RoundError", "ParseError", "Broken", *ROUND_ERRORS, *OWN_BASES):
            self.assertEqual(getattr(errors, name).__module__, "overrounds.errors")


class Kept(unittest.TestCase):
    def test_one_argument_of_any_kind_or_none(self):
        for name in ("RoundError", *ROUND_ERRORS):
            error = getattr(errors, name)
            self.assertIsInstance(error(), error)
            for told in TOLD:
                with self.assertRaises(error):
                    raise error(told)
            with self.assertRaises(TypeError):
                error(1, 2)

    def test_parse_error_keeps_line(self):
        for told in TOLD:
            self.assertIs(errors.ParseError(told).line, told)
        with self.assertRaises(TypeError):
            errors.ParseError()

    def test_others_keep_what_they_take(self):
        for name, (_, attribute) in OWN_BASES.items():
            error = getattr(errors, name)
            for told in TOLD:
                self.assertIs(getattr(error(told), attribute), told)
                self.assertEqual(vars(error(told)), {attribute: told})
            with self.assertRaises(TypeError):
                error()

    def test_broken_keeps_both(self):
        pin = ("interval", 3)
        broken = errors.Broken("interval", pin)
        self.assertEqual((broken.kind, broken.reason), ("interval", pin))
        with self.assertRaises(TypeError):
            errors.Broken("interval")

    def test_all_can_be_shown(self):
        for name in ("RoundError", "ParseError", *ROUND_ERRORS, *OWN_BASES):
            for told in TOLD:
                self.assertIsInstance(str(getattr(errors, name)(told)), str)
        self.assertIsInstance(str(errors.Broken(1, [2])), str)


if __name__ == "__main__":
    unittest.main()
