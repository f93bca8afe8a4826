import copy
import unittest

from completion_checks import GROUP, complete_group, group_signature, path_completion
from helpers import A, B, rules_of, signature, sized, t, tower
from joinedends.certificates import accepts, common_end, make_certificate
from joinedends.chains import is_derivation
from joinedends.completion import Completion
from joinedends.orders import make_order
from joinedends.overlaps import overlaps
from joinedends.pathorder import PathOrder
from joinedends.rewriting import join, normal_form

RULES = rules_of("g(g(x0)) = x0", "f(a, x0) = g(x0)")


def completed(names, *texts):
    """The signature, the given equations and the certificate of their completion."""
    given = rules_of(*texts)
    completion = Completion(PathOrder(names), given)
    completion.run(200)
    return names, given, make_certificate(names, given, completion)


def changed(certificate, at, value):
    return certificate[:at] + (value,) + certificate[at + 1:]


def with_entry(rows, at, value):
    return rows[:at] + [value] + rows[at + 1:]


class CommonEndTest(unittest.TestCase):
    def setUp(self):
        self.left, self.right = t("g(g(f(a, g(b))))"), t("f(a, g(b))")
        self.first = [(("given", 0), True, (), {0: t("f(a, g(b))")}), (("given", 1), True, (), {0: t("g(b)")}),
                      (("given", 0), True, (), {0: B})]
        self.second = self.first[1:]
        self.second = [(("given", 1), True, (), {0: t("g(b)")}), (("given", 0), True, (), {0: B})]

    def end(self, left_steps, right_steps, left=None, right=None, rules=RULES):
        entry = (left_steps, right_steps)
        before = copy.deepcopy((entry, rules))
        found = common_end(rules, self.left if left is None else left, self.right if right is None else right, entry)
        self.assertEqual((entry, rules), before)
        return found

    def test_right_lists(self):
        self.assertEqual(self.end(self.first, self.second), B)
        self.assertEqual(self.end(self.first[:2], self.second[:1]), t("g(g(b))"))
        self.assertEqual(self.end(self.first[:1], []), self.right)
        self.assertEqual(self.end([], [], self.left, self.left), self.left)
        self.assertEqual(self.end([], [], 0, 0), 0)
        self.assertEqual(self.end([(("given", 0), True, (), {0: 0})], [], t("g(g(x0))"), 0), 0)

    def test_a_step_left_out(self):
        self.assertIsNone(self.end(self.first[:-1], self.second))
        self.assertIsNone(self.end(self.first, self.second[:-1]))
        self.assertIsNone(self.end(self.first[1:], self.second))
        self.assertIsNone(self.end([], []))
        self.assertIsNone(self.end([], self.second))

    def test_steps_of_another_form(self):
        last = self.first[-1]
        for at in range(len(self.first)):
            step = self.first[at]
            for wrong in [(("stage", step[0][1]), *step[1:]), (step[0], False, *step[2:]), (("given", 2), *step[1:]),
                          (("given", -1), *step[1:]), (*step[:2], (1, 1, 1, 1, 1), step[3]), (*step[:3], {}),
                          (*step[:3], {0: A, 1: A}), (*step[:3], {0: t("h(a)")}), (("given", 1 - step[0][1]), *step[1:])]:
                rows = with_entry(self.first, at, wrong)
                self.assertIsNone(self.end(rows, self.second), wrong)
                self.assertIsNone(self.end(self.second, rows, self.right, self.left), wrong)
        # These lead from one to the other, but backward or by a stage.
        backward = [(last[0], False, *last[2:])]
        self.assertIsNone(self.end(backward, [], B, t("g(g(b))")))
        self.assertIsNone(self.end([], backward, t("g(g(b))"), B))
        self.assertIsNone(self.end(self.first + [last, (last[0], False, (), {0: B})], self.second))

    def test_another_term(self):
        self.assertIsNone(self.end(self.first, self.second, left=t("g(g(f(a, g(a))))")))
        self.assertIsNone(self.end(self.first, self.second, right=t("f(a, g(a))")))
        self.assertIsNone(self.end(self.first, [], right=A))
        self.assertIsNone(self.end(self.first, self.second, rules=RULES[:1]))
        self.assertIsNone(self.end(self.first, self.second, rules=RULES[::-1]))


class MakeTest(unittest.TestCase):
    def test_groups(self):
        names, given, completion = complete_group()
        rules, description, reasons, joins, stages, covers = make_certificate(names, given, completion)
        self.assertEqual((rules, description), (completion.rules(), ("path",)))
        order = PathOrder(names)
        self.assertEqual(reasons, [order.reason(*rule) for rule in rules])
        rows = overlaps(rules)
        self.assertEqual(joins, [(normal_form(rules, row[4])[1], normal_form(rules, row[5])[1]) for row in rows])
        self.assertEqual(covers, [join(rules, *equation)[1:] for equation in given])
        self.assertEqual(len(stages), len(rules))
        for rule, rows in zip(rules, stages):
            self.assertTrue(is_derivation(given, *rule, rows))
        self.assertEqual([type(part) for part in (rules, reasons, joins, stages, covers)], 5 * [list])
        self.assertTrue(accepts(names, given, (rules, description, reasons, joins, stages, covers)))

    def test_complete_systems(self):
        for names, *texts in [("a",), ("g", "g(g(x0)) = x0"), ("f", "f(x0, x0) = x0"),
                              ("a b f", "f(f(x0, x1), x2) = f(x0, f(x1, x2))", "f(a, x0) = x0", "f(x0, a) = x0"),
                              ("f", "f(f(x0, x1), f(x1, x2)) = x1"), ("a b g", "a = b", "g(a) = g(b)", "b = a"),
                              ("a g", "x0 = g(x0)", "x1 = g(g(x1))")]:
            names, given, certificate = completed(signature(names), *texts)
            self.assertIsInstance(certificate, tuple)
            self.assertEqual(len(certificate), 6)
            self.assertIs(accepts(names, given, certificate), True, texts)

    def test_none(self):
        for names, *texts in [("f", "f(x0, x1) = f(x1, x0)"), ("a f h", "h(x0) = f(x0, x0)", "h(h(h(h(h(h(h(h(a)))))))) = a")]:
            self.assertIsNone(completed(signature(names), *texts)[2])
        completion = path_completion("g", "g(g(x0)) = x0")
        self.assertIsNone(make_certificate(signature("g"), rules_of("g(g(x0)) = x0"), completion))
        completion.step()
        self.assertIsNone(make_certificate(signature("g"), rules_of("g(g(x0)) = x0"), completion))
        completion.step()
        self.assertIsNotNone(make_certificate(signature("g"), rules_of("g(g(x0)) = x0"), completion))

    def test_certificates_are_new(self):
        names, given, completion = complete_group()
        first = make_certificate(names, given, completion)
        kept = copy.deepcopy(first)
        for part in (first[0], first[2], first[3], first[4], first[5]):
            part.clear()
        self.assertEqual(make_certificate(names, given, completion), kept)


class AcceptsTest(unittest.TestCase):
    @classmethod
    def setUpClass(cls):
        cls.names, cls.given, cls.right = completed(group_signature(), *GROUP)

    def refuse(self, certificate, names=None, given=None):
        before = copy.deepcopy(certificate)
        self.assertIs(accepts(self.names if names is None else names, self.given if given is None else given, certificate), False)
        self.assertEqual(certificate, before)

    def test_right(self):
        before = copy.deepcopy((self.given, self.right))
        self.assertIs(accepts(self.names, self.given, self.right), True)
        self.assertEqual((self.given, self.right), before)

    def test_rules(self):
        rules = self.right[0]
        for at, (left, right) in enumerate(rules):
            for wrong in [(right, left), (left, ("i", right)), (left, 9), (0, right), (("i", left), right)]:
                self.refuse(changed(self.right, 0, with_entry(rules, at, wrong)))
        self.refuse(changed(self.right, 0, rules[:-1]))
        self.refuse(changed(self.right, 0, rules[1:]))
        self.refuse(changed(self.right, 0, rules + rules[:1]))
        self.refuse(changed(self.right, 0, rules[::-1]))
        self.refuse(changed(self.right, 0, []))
        self.refuse(changed(self.right, 0, 400 * rules[:1]))

    def test_order_descriptions(self):
        for wrong in [("paths",), ("path", 1), ("weight", {"e": 1, "f": 0, "i": 0}, 1), ("weight", {}, 1), ("weight",),
                      ("weight", {"e": 1, "f": 1, "i": 1, "h": 1}, 1), ("polynomial", {"e": [1], "f": [1, 1, 1], "i": [1, 1]}),
                      ("polynomial", {"e": [1], "f": [1, 1], "i": [1, 1]}), ("", {}, {}), ("weight", 1, {})]:
            self.refuse(changed(self.right, 1, wrong))

    def test_reasons(self):
        reasons = self.right[2]
        for at in range(len(reasons)):
            for wrong in [None, (), ("path",), ("variable", 1), ("argument", 9, None), ("argument", 1, ("weight",)), "name", 3,
                          ("name", 1), ("lexical", 1, None, ())]:
                self.refuse(changed(self.right, 2, with_entry(reasons, at, wrong)))
        for rows in (reasons[:-1], reasons[1:], reasons + reasons[-1:], [], 40 * reasons):
            self.refuse(changed(self.right, 2, rows))

    def test_joins(self):
        joins = self.right[3]
        for at, (left, right) in enumerate(joins):
            for wrong in [(left[:-1], right), (left, right[:-1]), (right, left), ([], []), (left + left[-1:], right)]:
                if wrong != (left, right):
                    self.refuse(changed(self.right, 3, with_entry(joins, at, wrong)))
        for rows in (joins[:-1], joins[1:], joins + joins[-1:], joins + [([], [])], [], 8 * joins, joins[::-1]):
            self.refuse(changed(self.right, 3, rows))
        for at in (0, len(joins)):
            self.refuse(changed(self.right, 3, joins[:at] + [([], [])] + joins[at:]))

    def test_steps_of_joins_and_covers(self):
        for part in (3, 5):
            for at, entry in enumerate(self.right[part]):
                for side in (0, 1):
                    for number, step in enumerate(entry[side]):
                        for wrong in [(("stage", 0), *step[1:]), (step[0], False, *step[2:]), (("given", 400), *step[1:]),
                                      (("given", -1), *step[1:]), (*step[:2], (3,), step[3]), (*step[:3], {17: 5})]:
                            rows = changed(entry, side, with_entry(entry[side], number, wrong))
                            self.refuse(changed(self.right, part, with_entry(self.right[part], at, rows)))

    def test_derivations(self):
        stages = self.right[4]
        for at, rows in enumerate(stages):
            left, right, steps = rows[-1]
            if rows[-2][:2] != (left, right):
                self.refuse(changed(self.right, 4, with_entry(stages, at, rows[:-1])))
            for wrong in [[], rows[1:], rows + [(0, 0, [])], rows[:-1] + [(left, right, steps[:-1])],
                          rows[:-1] + [(right, left, steps)], stages[at - 1],
                          rows[:-1] + [(left, ("i", right), steps)], rows[:-1] + [(("i", left), right, steps)]]:
                self.refuse(changed(self.right, 4, with_entry(stages, at, wrong)))
        for rows in (stages[:-1], stages[1:], stages + stages[-1:], [], 40 * stages, stages[::-1]):
            self.refuse(changed(self.right, 4, rows))

    def test_covers(self):
        covers = self.right[5]
        for at, (left, right) in enumerate(covers):
            for wrong in [(left[:-1], right), (right, left), (left, right + left)]:
                if wrong != (left, right):
                    self.refuse(changed(self.right, 5, with_entry(covers, at, wrong)))
        for rows in (covers[:-1], covers[1:], covers + covers[-1:], [], covers + [([], [])], covers[::-1], 100 * covers):
            self.refuse(changed(self.right, 5, rows))

    def test_other_given_equations(self):
        for given in [self.given[:-1], self.given[1:], [], self.given[::-1], self.given + rules_of("x0 = x0"),
                      rules_of("f(e, x0) = x0", "f(i(x0), x0) = e", "f(x0, x1) = f(x1, x0)"),
                      rules_of("f(x0, e) = x0", "f(i(x0), x0) = e", "f(f(x0, x1), x2) = f(x0, f(x1, x2))")]:
            self.refuse(self.right, given=given)
        # More equations need more covers, and these may be there.
        more = changed(self.right, 5, self.right[5] + [([], [])])
        self.assertIs(accepts(self.names, self.given + rules_of("x0 = x0"), more), True)
        self.refuse(more, given=self.given + rules_of("x0 = x1"))

    def test_other_signatures(self):
        for declared in [[], [("e", 0), ("f", 2)], [("e", 0), ("i", 1)], [("e", 0), ("f", 2), ("i", 2)],
                         [("e", 0), ("f", 3), ("i", 1)], [("i", 1), ("f", 2)], [("f", 2), ("e", 0), ("j", 1)]]:
            names = signature("")
            for name, arity in declared:
                names.declare(name, arity)
            self.refuse(self.right, names=names)
        # In another precedence the reasons are no reasons.
        names = signature("")
        for name, arity in [("i", 1), ("f", 2), ("e", 0)]:
            names.declare(name, arity)
        self.refuse(self.right, names=names)
        names.declare("h", 1)
        names = group_signature()
        names.declare("h", 1)
        self.assertIs(accepts(names, self.given, self.right), True)


class OneRuleTest(unittest.TestCase):
    """Certificates of one rule by itself: all is right but for one condition."""

    def certificate(self, left, right, order=("path",), names="a b g h f k"):
        names = signature(names)
        description = make_order(names, order)
        stages = [[(left, right, [(("given", 0), True, (), {name: name for name in range(20)
                                                            if name in self.variables(left) + self.variables(right)})])]]
        reasons = [description.reason(left, right)]
        return names, [(left, right)], ([(left, right)], order, reasons, [], stages, [(self.steps(left), [])])

    def variables(self, term):
        if isinstance(term, int):
            return [term]
        return [name for part in term[1:] for name in self.variables(part)]

    def steps(self, left):
        return [(("given", 0), True, (), {name: name for name in self.variables(left)})]

    def check(self, is_right, left, right, **more):
        names, given, certificate = self.certificate(left, right, **more)
        self.assertIs(accepts(names, given, certificate), is_right)

    def test_variables(self):
        for name in (0, 3, 9):
            self.check(True, ("g", ("h", name)), name)
            self.check(True, ("g", ("h", name)), A)
        for name in (10, 11, 19):
            self.check(False, ("g", ("h", name)), name)
            self.check(False, ("g", ("h", name)), A)
        self.check(False, ("f", ("h", 0), 10), 0)
        self.check(True, ("f", ("h", 0), 9), 0)

    def test_rules(self):
        names, given, (rules, order, reasons, joins, stages, covers) = self.certificate(("g", ("h", 0)), A)
        for wrong in [(0, A), (A, 0), (("g", 0), 1)]:
            stages = [[(*wrong, [(("given", 0), True, (), {name: name for name in (0, 1)
                                                           if name in self.variables(wrong[0]) + self.variables(wrong[1])})])]]
            for reason in [("variable",), ("argument", 1, None), ("name", ())]:
                self.assertIs(accepts(names, [wrong], ([wrong], order, [reason], joins, stages, [([], [])])), False)
        self.assertIs(accepts(names, given, (rules, order, reasons, joins, stages, covers)), False)

    def test_terms_that_do_not_fit(self):
        self.check(True, ("g", ("h", 0)), ("h", 0))
        # The path order has a reason for these, although the right sides do not fit.
        for term in [("b", 0), ("b", B, B), ("a", 0)]:
            self.check(False, ("g", ("h", 0)), term)
        names, given, certificate = self.certificate(("g", ("h", 0)), ("h", 0))
        for term in [("m", 0, 0), ("h", 0, 0), ("h",), ("a", 0), ("g", ("m", 0)), ("f", ("h", 0)), ("k", 0, 0)]:
            for wrong in [(("g", ("h", 0)), term), (("g", term), A), (term, 0), (0, term)]:
                self.assertIs(accepts(names, given, changed(certificate, 0, [wrong])), False)
                self.assertIs(accepts(names, given, changed(certificate, 0, certificate[0] + [wrong])), False)
                self.assertIs(accepts(names, given, changed(certificate, 4, [[(*wrong, [])]])), False)
                value = {0: term}
                self.assertIs(accepts(names, given, changed(certificate, 5, [([(("given", 0), True, (), value)], [])])), False)

    def test_sizes(self):
        self.check(True, ("g", sized(399)), A)
        self.check(False, ("g", sized(400)), A)
        self.check(True, ("h", tower("g", 28, A)), A)
        self.check(False, ("h", tower("g", 29, A)), A)
        self.check(True, ("k", 0, A, B), sized(400))
        self.check(False, ("k", 0, A, B), sized(401))
        self.check(True, ("k", tower("g", 28, 0), A, A), tower("g", 28, 0))
        self.check(False, ("k", tower("g", 29, 0), A, A), tower("g", 28, 0))

    def test_each_order(self):
        left, right = ("g", ("h", 0)), ("h", 0)
        weights = {"a": 1, "b": 1, "g": 1, "h": 1, "f": 0, "k": 0}
        table = {"a": [0], "b": [0], "g": [1, 1], "h": [0, 2], "f": [0, 1, 1], "k": [0, 1, 1, 1]}
        orders = [("path",), ("weight", weights, 1), ("polynomial", table)]
        names, given, certificate = self.certificate(left, right)
        reasons = [make_order(names, order).reason(left, right) for order in orders]
        self.assertEqual(len(set(reasons)), 3)
        for at, order in enumerate(orders):
            self.check(True, left, right, order=order)
            for number, reason in enumerate(reasons):
                made = changed(changed(certificate, 1, order), 2, [reason])
                self.assertIs(accepts(names, given, made), at == number)

    def test_overlaps_with_errors(self):
        # The overlap of the two rules is too large, so nothing is claimed for it.
        names = signature("a b f g")
        for count, is_right in [(198, True), (199, False)]:
            rules = [(("f", ("g", 0), sized(count)), ("g", 0)), (("g", sized(200)), B)]
            peak = ("f", rules[1][0], sized(count))
            order = PathOrder(names)
            stages = [[(*rule, [(("given", k), True, (), {0: 0} if k == 0 else {})])] for k, rule in enumerate(rules)]
            covers = [([(("given", k), True, (), {0: 0} if k == 0 else {})], []) for k in range(2)]
            rule = (("f", B, sized(count)), B)
            rules.append(rule)
            stages.append([(*rule, [(("given", 2), True, (), {})])])
            covers.append(([(("given", 2), True, (), {})], []))
            joins = [([(("given", 2), True, (), {})], [(("given", 1), True, (), {})])]
            certificate = (rules, ("path",), [order.reason(*row) for row in rules], joins, stages, covers)
            self.assertIs(accepts(names, list(rules), certificate), is_right)
            del peak

    def test_large_certificates(self):
        names = signature("a b g h f k")
        rules = [(("k", tower("g", number // 20, 0), tower("h", number % 20, A), 1), 0) for number in range(400)]
        order = PathOrder(names)
        certificate = (rules, ("path",), [order.reason(*rule) for rule in rules], 400 * [([], [])], 400 * [[]], [])
        self.assertIs(accepts(names, [], certificate), False)


if __name__ == "__main__":
    unittest.main()
