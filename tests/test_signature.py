import unittest

from helpers import A, B, comb, sized, tower
from joinedends.errors import Duplicate, HallError, InvalidArity, InvalidName, TooLarge, UnknownName, WrongArity
from joinedends.signature import Signature


def made():
    signature = Signature()
    signature.declare("a", 0)
    signature.declare("f", 2, commutative=True)
    signature.declare("g", 1)
    signature.declare("b", 0)
    signature.declare("k", 3)
    return signature


def state(signature):
    return [(name, signature.arity(name), signature.rank(name), signature.is_commutative(name))
            for name in signature]


class SignatureTest(unittest.TestCase):
    def test_declare_returns_the_rank(self):
        signature = Signature()
        self.assertEqual(len(signature), 0)
        for rank, (name, arity) in enumerate([("b", 0), ("a", 1), ("zz", 2), ("abcdefgh", 3)]):
            self.assertEqual(signature.declare(name, arity), rank)
            self.assertEqual(len(signature), rank + 1)
            self.assertEqual(signature.rank(name), rank)
            self.assertEqual(signature.arity(name), arity)
            self.assertIs(signature.is_commutative(name), False)
        self.assertEqual(signature.declare("s", 2, commutative=True), 4)
        self.assertIs(signature.is_commutative("s"), True)
        self.assertEqual(signature.declare("r", 2, commutative=False), 5)
        self.assertIs(signature.is_commutative("r"), False)

    def test_invalid_names(self):
        signature = made()
        before = state(signature)
        for name in ["", "abcdefghi", "A", "aB", "a1", "x0", "a b", " a", "a_", "-", "a(", "1"]:
            for arity in (0, 2, 4):
                with self.assertRaises(InvalidName):
                    signature.declare(name, arity)
                self.assertNotIn(name, signature)
        self.assertEqual(state(signature), before)
        signature.declare("x", 0)
        signature.declare("abcdefgh", 0)

    def test_invalid_arities(self):
        signature = made()
        before = state(signature)
        for arity in (-2, -1, 4, 5, 100):
            for is_commutative in (True, False):
                for name in ("c", "a"):
                    with self.assertRaises(InvalidArity):
                        signature.declare(name, arity, commutative=is_commutative)
        for arity in (0, 1, 3):
            for name in ("c", "a"):
                with self.assertRaises(InvalidArity):
                    signature.declare(name, arity, commutative=True)
        self.assertEqual(state(signature), before)

    def test_duplicate(self):
        signature = made()
        before = state(signature)
        for arity in range(4):
            with self.assertRaises(Duplicate):
                signature.declare("f", arity)
        self.assertEqual(state(signature), before)

    def test_the_thirteenth_operation(self):
        signature = Signature()
        for letter in "abcdefghijkl":
            signature.declare(letter, 0)
        before = state(signature)
        with self.assertRaises(TooLarge):
            signature.declare("m", 0)
        with self.assertRaises(InvalidName):
            signature.declare("M", 9)
        with self.assertRaises(InvalidArity):
            signature.declare("m", 4)
        with self.assertRaises(Duplicate):
            signature.declare("a", 0)
        self.assertEqual(state(signature), before)
        self.assertEqual(len(signature), 12)

    def test_unknown_names(self):
        signature = made()
        for name in ("c", "", "F", "ff"):
            for call in (signature.arity, signature.rank, signature.is_commutative):
                with self.assertRaises(UnknownName) as caught:
                    call(name)
                self.assertEqual(caught.exception.name, name)
                self.assertIsInstance(caught.exception, HallError)

    def test_contents(self):
        signature = made()
        self.assertEqual(signature.constants(), ["a", "b"])
        self.assertEqual(list(signature), ["a", "f", "g", "b", "k"])
        self.assertEqual(len(signature), 5)
        self.assertIs("f" in signature, True)
        self.assertIs("c" in signature, False)
        self.assertIs("" in signature, False)
        signature.constants().append("z")
        list(signature).append("z")
        self.assertEqual(signature.constants(), ["a", "b"])
        self.assertEqual(Signature().constants(), [])
        self.assertEqual(list(Signature()), [])

    def test_iterations_are_independent(self):
        signature = made()
        pairs = [(one, other) for one in signature for other in signature]
        self.assertEqual(len(pairs), 25)

    def test_copy(self):
        signature = made()
        other = signature.copy()
        self.assertIsInstance(other, Signature)
        self.assertEqual(state(other), state(signature))
        other.declare("c", 0)
        signature.declare("d", 1)
        self.assertEqual(list(other), ["a", "f", "g", "b", "k", "c"])
        self.assertEqual(list(signature), ["a", "f", "g", "b", "k", "d"])
        self.assertNotIn("d", other)
        with self.assertRaises(UnknownName):
            signature.arity("c")


class CheckTest(unittest.TestCase):
    def test_terms_that_fit(self):
        signature = made()
        for term in (0, 19, A, ("g", 3), ("f", A, 0), ("k", A, ("f", B, B), ("g", ("g", 7))),
                     sized(400), tower("g", 29, A), tower("g", 29, 19)):
            self.assertIsNone(signature.check(term))

    def test_a_variable_fits_the_empty_signature(self):
        self.assertIsNone(Signature().check(3))
        with self.assertRaises(UnknownName):
            Signature().check(A)

    def check_error(self, term, error, name):
        with self.assertRaises(error) as caught:
            made().check(term)
        self.assertEqual(caught.exception.name, name)

    def test_unknown_names(self):
        self.check_error(("c",), UnknownName, "c")
        self.check_error(("c", ("d",)), UnknownName, "c")
        self.check_error(("f", ("g", ("e", A)), ("d",)), UnknownName, "e")

    def test_wrong_arities(self):
        self.check_error(("a", 0), WrongArity, "a")
        self.check_error(("g",), WrongArity, "g")
        self.check_error(("f", A), WrongArity, "f")
        self.check_error(("f", A, A, A), WrongArity, "f")
        self.check_error(("k", A, A), WrongArity, "k")
        self.check_error(("k", A, A, A, A), WrongArity, "k")

    def test_the_first_application_in_the_order_of_positions(self):
        self.check_error(("f", ("c",), ("g",)), UnknownName, "c")
        self.check_error(("f", ("g",), ("c",)), WrongArity, "g")
        self.check_error(("g", ("c",), ("d",)), WrongArity, "g")
        self.check_error(("k", ("g", ("a", 1)), ("c",), ("d",)), WrongArity, "a")
        self.check_error(("d", ("g",)), UnknownName, "d")

    def test_too_large(self):
        signature = made()
        for term in (sized(401), sized(4000), tower("g", 30, A), tower("g", 59, 0), comb("f", 59, A)):
            with self.assertRaises(TooLarge):
                signature.check(term)

    def test_an_application_that_does_not_fit_comes_before_the_size(self):
        self.check_error(("f", sized(3998), ("c",)), UnknownName, "c")
        self.check_error(tower("g", 58, ("a", 0)), WrongArity, "a")
        self.check_error(("f", sized(3990), ("g",)), WrongArity, "g")


if __name__ == "__main__":
    unittest.main()
