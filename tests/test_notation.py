import unittest

from helpers import A, B, bush, random_term, seeded, tower
from joinedends.errors import HallError, Malformed, TooLarge
from joinedends.notation import read_equation, read_term, write_equation, write_term


class WriteTest(unittest.TestCase):
    def test_variables(self):
        for variable in range(20):
            self.assertEqual(write_term(variable), "x" + str(variable))

    def test_applications(self):
        self.assertEqual(write_term(A), "a")
        self.assertEqual(write_term(("abcdefgh",)), "abcdefgh")
        self.assertEqual(write_term(("g", 10)), "g(x10)")
        self.assertEqual(write_term(("f", 0, ("g", A))), "f(x0, g(a))")
        self.assertEqual(write_term(("k", A, ("k", 1, 2, 3), B)), "k(a, k(x1, x2, x3), b)")

    def test_equations(self):
        self.assertEqual(write_equation(0, 0), "x0 = x0")
        self.assertEqual(write_equation(("f", 0, 1), ("f", 1, 0)), "f(x0, x1) = f(x1, x0)")
        self.assertEqual(write_equation(A, ("g", B)), "a = g(b)")

    def test_a_written_term_may_be_long(self):
        self.assertEqual(write_term(tower("g", 100, A)), "g(" * 100 + "a" + ")" * 100)


class ReadTest(unittest.TestCase):
    def spaced(self, text):
        for token in "(),=":
            text = text.replace(token, "   " + token + "  ")
        return "  " + text + "    "

    def test_what_was_written_is_read_back(self):
        rng = seeded(5)
        for _ in range(60):
            left, right = random_term(rng, 4, 20), random_term(rng, 4, 20)
            text = write_term(left)
            for form in (text, text.replace(" ", ""), self.spaced(text)):
                self.assertEqual(read_term(form), left)
            text = write_equation(left, right)
            for form in (text, text.replace(" ", ""), self.spaced(text)):
                self.assertEqual(read_equation(form), (left, right))

    def test_variables_and_names(self):
        for variable in range(20):
            self.assertEqual(read_term(f"x{variable}"), variable)
        for name in ("x", "xx", "a", "abcdefgh", "xa"):
            self.assertEqual(read_term(name), (name,))
        self.assertEqual(read_term("x(x0)"), ("x", 0))

    def test_readers_know_no_signature(self):
        self.assertEqual(read_term("f(f, f(f))"), ("f", ("f",), ("f", ("f",))))

    def malformed(self, reader, text, index):
        for error in (Malformed, HallError, ValueError):
            with self.assertRaises(error) as caught:
                reader(text)
            self.assertEqual(caught.exception.index, index, text)

    def test_examples_of_the_document(self):
        for text, index in [("", 0), ("a()", 2), ("f(a,)", 4), ("f(a,b,c,d)", 7), ("x20", 0), ("x01", 0),
                            ("a b", 2), ("aB", 0), ("a = b", 2)]:
            self.malformed(read_term, text, index)
        self.malformed(read_equation, "a  ", 3)

    def test_no_such_words(self):
        for word in ["abcdefghi", "x20", "x01", "x00", "x001", "x100", "x1a", "xx1", "a1", "1", "0x", "A", "Ab", "aB",
                     "x19x", "X1", "x1x1"]:
            self.malformed(read_term, word, 0)
            self.malformed(read_term, "  " + word, 2)
            self.malformed(read_term, f"f(a, {word})", 5)
            self.malformed(read_term, f"a {word}", 2)
            self.malformed(read_term, f"f {word}", 2)
            self.malformed(read_equation, f"a = {word}", 4)
            self.malformed(read_equation, f"{word} = a", 0)

    def test_characters_that_begin_no_token(self):
        for letter in "!\"#$&'*+-./:;<>?@[\\]^_`{|}~":
            self.malformed(read_term, letter, 0)
            self.malformed(read_term, "a" + letter, 1)
            self.malformed(read_term, f"f(a {letter}, b)", 4)
            self.malformed(read_term, f"f{letter}(a)", 1)
            self.malformed(read_equation, f"a {letter} b", 2)
            self.malformed(read_equation, f"a = b {letter}", 6)

    def test_tokens_that_cannot_stand_there(self):
        for text, index in [("(", 0), (")", 0), (",", 0), ("=", 0), ("a)", 1), ("a,", 1), ("(a)", 0), ("f((a))", 2),
                            ("f(,a)", 2), ("f(a b)", 4), ("f(a))", 4), ("x1(a)", 2), ("f(x1(a))", 4), ("f(a)(b)", 4),
                            ("f(a)b", 4), ("f(a = b)", 4), ("f(=)", 2), ("f(a, b, c, d)", 9), ("f(a,b,c,", 7),
                            ("a ( )", 4), ("f(g(a,b,c,d))", 9), ("x1 x2", 3), ("f(a,b,,)", 6)]:
            self.malformed(read_term, text, index)
        for text, index in [("= a", 0), ("a = = b", 4), ("a = b = c", 6), ("a = b)", 5), ("a b", 2), ("a = ,", 4),
                            ("f(a = b", 4), ("a = b c", 6), ("a == b", 3)]:
            self.malformed(read_equation, text, index)

    def test_texts_that_end_too_early(self):
        for text in ["", "   ", "f(", "f(a", "f(a,", "f(a, b", "f(a, b ", "f(g(a)", "f(a,b,c", "f(a,b,c  "]:
            self.malformed(read_term, text, len(text))
        for text in ["", " ", "a", "a  ", "a =", "a =  ", "f(a) = f(", "f(a) = f(b ", "f(a)"]:
            self.malformed(read_equation, text, len(text))

    def test_the_first_bad_token_counts(self):
        self.malformed(read_term, "f(a, A, +)", 5)
        self.malformed(read_term, "f(a b + A", 4)
        self.malformed(read_equation, "f(a)) = +", 4)

    def test_too_large(self):
        deepest = write_term(tower("g", 29, 0))
        self.assertEqual(read_term(deepest), tower("g", 29, 0))
        too_deep = write_term(tower("g", 30, 0))
        widest = write_term(bush("f", 7, ("a",))).replace(" ", "")
        self.assertEqual(read_term(widest), bush("f", 7, ("a",)))
        too_wide = "k(" + widest + "," + widest + ",a)"
        for text in (too_deep, too_wide, write_term(tower("g", 50, 0))):
            with self.assertRaises(TooLarge):
                read_term(text)
            for equation in (text + "=a", "a=" + text):
                with self.assertRaises(TooLarge):
                    read_equation(equation)
            self.malformed(read_term, text + ")", len(text))
            self.malformed(read_term, text[:-1], len(text) - 1)
            self.malformed(read_equation, text, len(text))
            self.malformed(read_equation, text + " = a)", len(text) + 4)


if __name__ == "__main__":
    unittest.main()
