import copy
import re
import unittest

from helpers import A, eq, seeded, sized, t
from joinedends.errors import HallError, Malformed
from joinedends.hall import Hall
from joinedends.notation import read_equation, write_equation, write_term
from joinedends.reading import read_hall
from joinedends.signature import Signature

LINES = ["operation a 0", "operation b 0", "operation g 1", "operation f 2 commutative", "operation k 3",
         "theory one", "theory two", "theory three", "import two one", "import three two", "import three one",
         "equation one 0 f(x0, a) = x0", "equation one 3 a = b", "equation three 1 k(x0, x1, x9) = g(x1)",
         "next one 4", "next two 7", "next three 2"]
FORMS = [re.compile(form) for form in [
    "operation ([a-z]{1,8}) (0|[1-9][0-9]{0,8})( commutative)?", "theory ([a-z]{1,8})", "import ([a-z]{1,8}) ([a-z]{1,8})",
    "equation ([a-z]{1,8}) (0|[1-9][0-9]{0,8}) (.*)", "next ([a-z]{1,8}) (0|[1-9][0-9]{0,8})"]]


class PlainReader:
    """The words of point 77 as one condition after the other."""

    def __init__(self):
        self.arities, self.theories, self.numbers, self.done, self.kind = {}, {}, [], [], 0

    def reached(self, name):
        found = [name]
        for other in found:
            found.extend(x for x in self.theories[other] if x not in found)
        return found

    def fits(self, term):
        if isinstance(term, int):
            return term <= 9
        return self.arities.get(term[0]) == len(term) - 1 and all(self.fits(part) for part in term[1:])

    def takes(self, line):
        found = [(kind, form.fullmatch(line)) for kind, form in enumerate(FORMS) if form.fullmatch(line)]
        if not found or found[0][0] < self.kind:
            return False
        self.kind, match = found[0]
        parts = match.groups()
        names = list(self.theories)
        if self.kind == 0:
            name, arity = parts[0], int(parts[1])
            if arity > 3 or name in self.arities or len(self.arities) == 12 or (parts[2] and arity != 2):
                return False
            self.arities[name] = arity
        elif self.kind == 1:
            if parts[0] in names:
                return False
            self.theories[parts[0]] = []
        elif self.kind == 2:
            name, other = parts
            if name not in names or other not in names or name in self.reached(other) or other in self.theories[name]:
                return False
            self.theories[name].append(other)
        elif self.kind == 3:
            if parts[0] not in names:
                return False
            entry = (names.index(parts[0]), int(parts[1]))
            try:
                sides = read_equation(parts[2])
            except HallError:
                return False
            if write_equation(*sides) != parts[2] or not all(self.fits(side) for side in sides):
                return False
            if self.numbers and entry <= self.numbers[-1]:
                return False
            self.numbers.append(entry)
        else:
            at = len(self.done)
            if at == len(names) or parts[0] != names[at]:
                return False
            if any(number >= int(parts[1]) for place, number in self.numbers if place == at):
                return False
            self.done.append(int(parts[1]))
        return True

    def failure(self, lines):
        for index, line in enumerate(lines):
            if not self.takes(line):
                return index
        return None if len(self.done) == len(self.theories) else len(lines)


class ReadTest(unittest.TestCase):
    def check_same(self, hall, lines):
        """What the hall is like is what the lines say, and another reading gives the same."""
        self.assertEqual(hall.written(), lines)
        other = read_hall(lines)
        for name in hall.theories():
            self.assertEqual((other.imports(name), other.sources(name), other.given(name), other.reached(name)),
                             (hall.imports(name), hall.sources(name), hall.given(name), hall.reached(name)))
        self.assertEqual(other.theories(), hall.theories())

    def test_every_kind_of_line(self):
        before = list(LINES)
        hall = read_hall(LINES)
        self.assertEqual(LINES, before)
        self.check_same(hall, LINES)
        self.assertEqual(hall.theories(), ["one", "two", "three"])
        self.assertEqual([hall.imports(name) for name in hall.theories()], [[], ["one"], ["two", "one"]])
        self.assertEqual(hall.sources("three"), [("one", 0), ("one", 3), ("three", 1)])
        self.assertEqual(hall.given("two"), [eq("f(x0, a) = x0"), eq("a = b")])
        self.assertEqual(hall.equation("three", 1), eq("k(x0, x1, x9) = g(x1)"))
        self.assertEqual([hall.add(name, A, A) for name in hall.theories()], [4, 7, 2])
        self.assertEqual([hall.kept(name) for name in hall.theories()], [[], [], []])
        self.assertEqual(hall.ask("two", *eq("a = b"))[0], "same")

    def test_small_halls(self):
        for lines in [[], ["operation a 0"], ["theory one", "next one 0"], ["theory one", "next one 999999999"],
                      ["operation a 0", "theory one", "equation one 0 a = a", "next one 1"],
                      ["operation a 0", "theory one", "equation one 999999998 a = a", "next one 999999999"],
                      ["theory b", "theory a", "import b a", "equation b 0 x0 = x0", "equation a 0 x9 = x1", "next b 1", "next a 1"],
                      ["operation f 2", "operation m 2 commutative", "operation abcdefgh 3"],
                      ["theory next", "theory theory", "import theory next", "next next 0", "next theory 3"],
                      ["operation next 0", "theory a", "equation a 5 next = next", "next a 6"]]:
            hall = read_hall(lines)
            self.check_same(hall, lines)
        self.assertEqual((read_hall([]).theories(), read_hall([]).written()), ([], []))

    def test_imports_in_any_order_of_theories(self):
        lines = ["theory one", "theory two", "theory three", "import three one", "import one two", "import three two",
                 "next one 0", "next two 0", "next three 0"]
        hall = read_hall(lines)
        self.assertEqual([hall.imports(name) for name in hall.theories()], [["two"], [], ["one", "two"]])
        self.assertEqual(hall.written()[3:6], ["import one two", "import three one", "import three two"])

    def test_what_was_written_is_read_back(self):
        for seed in range(30):
            rng = seeded(seed)
            names = Signature()
            for name in rng.sample(["a", "b", "g", "h", "f", "k"], 5):
                arity = {"a": 0, "b": 0, "g": 1, "h": 1, "f": 2, "k": 3}[name]
                names.declare(name, arity, commutative=arity == 2 and rng.random() < 0.5)
            hall = Hall(names)
            for _ in range(40):
                choice = rng.random()
                try:
                    if choice < 0.2 and len(hall.theories()) < 12:
                        hall.create(rng.choice("abcdefghijklmno"))
                    elif hall.theories():
                        name, other = rng.choice(hall.theories()), rng.choice(hall.theories())
                        if choice < 0.4:
                            hall.include(name, other)
                        elif choice < 0.8:
                            hall.add(name, rng.choice([0, t("a"), t("g(x1)"), t("f(x0, b)")]),
                                     rng.choice([9, t("b"), t("h(g(x2))"), t("k(x0, x1, x2)")]))
                        else:
                            hall.drop(name, rng.randrange(3))
                except HallError:
                    pass
            lines = hall.written()
            self.check_same(hall, lines)
            again = read_hall(lines)
            self.assertEqual(again.written(), lines)
            for name in hall.theories():
                self.assertEqual(again.add(name, 0, 0), hall.add(name, 0, 0))


class MalformedTest(unittest.TestCase):
    def fail_at(self, index, lines):
        before = copy.deepcopy(lines)
        for error in (Malformed, HallError, ValueError):
            with self.assertRaises(error, msg=lines) as caught:
                read_hall(lines)
            self.assertEqual(caught.exception.index, index, lines)
        self.assertIs(type(caught.exception), Malformed)
        self.assertEqual(lines, before)
        self.assertEqual(PlainReader().failure(lines), index)

    def put(self, index, line):
        """The line in place of another one cannot stand there."""
        self.fail_at(index, LINES[:index] + [line] + LINES[index + 1:])

    def test_forms(self):
        for index in range(len(LINES)):
            line = LINES[index]
            for wrong in ["", " ", "operations a 0", "a = b", line + " ", " " + line, line.replace(" ", "  ", 1), line + " x",
                          line.replace(" ", "", 1), line.upper(), line.split(" ")[0], line[:-1] + ",", line + "\\",
                          "  ".join(line.rsplit(" ", 1)), "operation", "theory", "import", "equation", "next", "import one",
                          "next one", "equation one", "equation one 5", "equation one 5 ", "operation c", "theory ", "next  1"]:
                self.put(index, wrong)

    def test_operations(self):
        for wrong in ["operation a 1", "operation c 4", "operation c -1", "operation c 00", "operation c 01", "operation c +1",
                      "operation c 1000000000", "operation c 999999999", "operation abcdefghi 0", "operation A 0", "operation x0 0",
                      "operation  c 0", "operation c 0 commutative", "operation c 1 commutative", "operation c 3 commutative",
                      "operation c 2 commutativ", "operation c 2 commutative ", "operation c 2  commutative",
                      "operation c 2 commutative commutative", "operation c x", "operation c 1.0", "operation c "]:
            self.put(1, wrong)
        many = [f"operation {letter} 0" for letter in "abcdefghijklm"]
        self.assertEqual(read_hall(many[:12]).written(), many[:12])
        self.fail_at(12, many)

    def test_theories(self):
        for wrong in ["theory one", "theory one 4", "theory abcdefghi", "theory One", "theory x0", "theory two three", "theory  two", "theory"]:
            self.put(6, wrong)

    def test_imports(self):
        for wrong in ["import none one", "import one none", "import one one", "import one  two", "import one two three", "import ",
                      "import one", "import  one", "import one two "]:
            self.put(8, wrong)
        for wrong in ["import one two", "import two one", "import two two"]:
            self.put(9, wrong)
        for wrong in ["import one three", "import two three", "import three two", "import one two"]:
            self.put(10, wrong)

    def test_equations(self):
        for number in ("01", "00", "-1", "+1", "1000000000", "0000000001", "x", "1.", ""):
            self.put(12, f"equation one {number} a = b")
        for equation in ["a=b", "a  = b", "a = b ", " a = b", "a =b", "f(x0,a) = x0", "f( x0, a) = x0", "f(x0, a ) = x0", "g (a) = a",
                         "a", "a = ", "= a", "a = b = a", "x00 = a", "x10 = a", "a = x19", "x20 = a", "c = a", "a = c", "g(a, a) = a",
                         "f(a) = a", "a = k(a, a)", "g() = a", "A = a", "a == b", "a = b,", "a b = a", "k(a, a, a, a) = a",
                         "g(x10) = a", "a() = a", "a = b\\", "f(x0, x1) = f(x1, x0"]:
            self.put(12, f"equation one 3 {equation}")
        for equation in ["a = b", "x9 = x0", "f(x0, x1) = f(x1, x0)", "k(g(a), b, x3) = x7"]:
            self.assertEqual(read_hall(LINES[:12] + [f"equation one 3 {equation}"] + LINES[13:]).equation("one", 3), eq(equation))

    def test_large_terms(self):
        lines = ["operation a 0", "operation g 1", "operation f 2", "theory one"]
        right = f"equation one 0 {write_term(sized(400))} = a"
        self.assertEqual(read_hall(lines + [right, "next one 1"]).equation("one", 0), (sized(400), A))
        for wrong in (f"equation one 0 {write_term(sized(401))} = a", f"equation one 0 a = {write_term(sized(401))}",
                      f"equation one 0 a = {30 * 'g('}a{30 * ')'}"):
            with self.assertRaises(Malformed) as caught:
                read_hall(lines + [wrong, "next one 1"])
            self.assertEqual(caught.exception.index, 4)

    def test_numbers_that_do_not_ascend(self):
        for number in (0, 3, 2):
            line = f"equation one {number} a = a"
            self.fail_at(13, LINES[:13] + [line] + LINES[13:])
        self.fail_at(12, LINES[:12] + ["equation one 0 a = a"] + LINES[12:])
        for number in (1, 0):
            self.fail_at(14, LINES[:14] + [f"equation three {number} a = a"] + LINES[14:])
        self.assertEqual(read_hall(LINES[:13] + ["equation two 0 a = a", "equation two 6 a = a"] + LINES[13:]).sources("two"),
                         [("one", 0), ("one", 3), ("two", 0), ("two", 6)])

    def test_theories_out_of_order(self):
        self.fail_at(14, LINES[:14] + ["equation two 5 a = a"] + LINES[14:])
        self.fail_at(14, LINES[:14] + ["equation one 9 a = a"] + LINES[14:])
        self.fail_at(14, LINES[:14] + ["next two 7", "next one 4", "next three 2"])
        self.fail_at(15, LINES[:15] + ["next three 2", "next two 7"])
        self.put(13, "equation none 0 a = a")
        self.put(14, "next none 4")

    def test_next(self):
        for wrong in ["next one 3", "next one 0", "next one 04", "next one -4", "next one 1000000000", "next one", "next one 4 4",
                      "next one x", "next two 7", "next none 4"]:
            self.put(14, wrong)
        self.put(16, "next three 1")
        self.put(15, "next one 4")
        self.fail_at(15, LINES[:15] + ["next one 5"] + LINES[15:])
        self.fail_at(17, LINES + ["next three 2"])
        self.fail_at(17, LINES + ["next three 9"])
        self.assertEqual(read_hall(LINES[:14] + ["next one 999999999", "next two 0", "next three 2"]).add("one", A, A), 999999999)
        self.fail_at(3, ["operation a 0", "theory one", "equation one 999999999 a = a", "next one 999999999"])

    def test_kinds_out_of_order(self):
        starts = {"operation": "operation c 0", "theory": "theory four", "import": "import two three",
                  "equation": "equation three 9 a = a"}
        for index in range(1, len(LINES) + 1):
            kind = LINES[index - 1].split(" ")[0]
            for word, line in starts.items():
                if list(starts).index(word) < (["operation", "theory", "import", "equation", "next"]).index(kind):
                    self.fail_at(index, LINES[:index] + [line] + LINES[index:])

    def test_lines_that_are_missing_at_the_end(self):
        for count in range(len(LINES)):
            if count < 6:
                self.assertEqual(read_hall(LINES[:count]).written(), LINES[:count])
            else:
                self.fail_at(count, LINES[:count])
        self.fail_at(1, ["theory one"])
        # A line that is missing in between: the line behind it cannot stand there.
        self.fail_at(5, LINES[:5] + LINES[14:])
        self.fail_at(14, LINES[:14] + LINES[15:])
        self.fail_at(15, LINES[:15] + LINES[16:])

    def test_spoilt_lines(self):
        count = 0
        for seed in range(1500):
            rng = seeded(seed)
            lines = list(LINES)
            choice, at = rng.random(), rng.randrange(len(lines))
            if choice < 0.2:
                del lines[at]
            elif choice < 0.4:
                lines.insert(rng.randrange(len(lines)), lines[at])
            elif choice < 0.6:
                lines.insert(rng.randrange(len(lines)), lines.pop(at))
            else:
                place = rng.randrange(len(lines[at]))
                letter = rng.choice([" ", "0", "1", "x", "a", "f", "(", ")", ",", "=", "", "9", "two"])
                lines[at] = lines[at][:place] + letter + lines[at][place + rng.randrange(2):]
            wanted = PlainReader().failure(lines)
            if wanted is None:
                count += 1
                again = read_hall(lines).written()
                self.assertCountEqual(again, lines)
            else:
                self.fail_at(wanted, lines)
        self.assertTrue(100 < count < 800, count)

    def test_results_do_not_share(self):
        one, other = read_hall(LINES), read_hall(LINES)
        one.add("one", A, A)
        one.create("four")
        self.assertEqual(other.written(), LINES)


if __name__ == "__main__":
    unittest.main()
