"""Each name of the document's interface is defined in its own file, with the arguments as written."""

import ast
import pathlib
import unittest

FOLDER = pathlib.Path(__file__).resolve().parent.parent / "joinedends"

FUNCTIONS = {
    "terms": """is_variable(term) is_ground(term) size(term) depth(term) check_size(term) symbols(term) variables(term)
        occurs(variable,term) positions(term) subterm(term,position) replace(term,position,new) compare_terms(first,second)
        substitute(term,substitution) canonical(left,right)""",
    "notation": "write_term(term) write_equation(left,right) read_term(text) read_equation(text)",
    "chains": """apply_step(given,stages,term,step) visited(given,stages,term,steps) is_derivation(given,left,right,stages)
        reverse(steps) moved(steps,position) instantiated(steps,substitution) flat_length(stages) flatten(stages,limit)
        shorten(given,term,steps) used(stages)""",
    "matching": "match_term(pattern,term) match_lists(patterns,terms) is_instance(equation,general) subsumes(general,equation)",
    "unification": "unify(left,right) raised(term)",
    "commuting": """sorted_form(signature,term) are_alike(signature,first,second) commutative_matches(signature,pattern,term)
        combined_form(operations,term) are_combined_alike(operations,first,second)""",
    "orders": "make_order(signature,description)",
    "rules": "is_rule(left,right) check_rules(rules)",
    "rewriting": """redexes(rules,term) first_redex(rules,term,strategy) is_normal(rules,term)
        normal_form(rules,term,*,strategy='outer',limit=1000) join(rules,left,right)""",
    "overlaps": "overlap_at(rules,outer,inner,position) overlaps(rules)",
    "models": """cell_count(signature,size) value(model,term,assignment) holds(model,left,right) counterexample(model,left,right)
        is_model(signature,model) separates(signature,given,left,right,model)
        find_model(signature,given,left,right,*,max_size=2,max_models=500)""",
    "certificates": """common_end(rules,left,right,entry) make_certificate(signature,given,completion)
        accepts(signature,given,certificate)""",
    "answers": """answer(signature,given,left,right,*,steps=30,max_size=2,max_models=500)
        is_sound(signature,given,left,right,answer)""",
    "reading": "read_hall(lines)",
}

ORDER = "greater(left,right) reason(left,right) accepts(left,right,reason)"
CLASSES = {
    ("errors", "Malformed"): "(index)", ("errors", "InvalidRule"): "(index)", ("errors", "BadStep"): "(number)",
    ("errors", "UnknownName"): "(name)", ("errors", "WrongArity"): "(name)",
    ("signature", "Signature"): """() declare(name,arity,*,commutative=False) arity(name) rank(name) is_commutative(name) copy()
        constants() check(term) __len__() __contains__(name) __iter__()""",
    ("pathorder", "PathOrder"): "(signature) " + ORDER,
    ("weightorder", "WeightOrder"): "(signature,weights,variable_weight) weight(term) " + ORDER,
    ("polynomialorder", "PolynomialOrder"): "(signature,table) polynomial(term) " + ORDER,
    ("rules", "RuleIndex"): "(rules) candidates(term)",
    ("completion", "Completion"): """(order,equations) step() run(limit) status() rules() waiting() aside() lost() derivation(k)
        derive(left,right)""",
    ("ground", "Closure"): "(equations,terms) members() classes() same(left,right) derivation(left,right) model(signature)",
    ("theory", "Theory"): """(signature) add(left,right) drop(number) given() sources() equation(number)
        ask(left,right,*,steps=30,max_size=2,max_models=500) kept() rests_on(left,right)""",
    ("hall", "Hall"): """(signature) create(name) theories() include(name,other) imports(name) reached(name) add(name,left,right)
        drop(name,number) equation(name,number) given(name) sources(name)
        ask(name,left,right,*,steps=30,max_size=2,max_models=500) kept(name) rests_on(name,left,right) written()""",
}
PLAIN_ERRORS = "InvalidName InvalidArity Duplicate TooLarge StepLimit NoPosition NotFound Cyclic InvalidOrder"


def tree(name):
    return ast.parse((FOLDER / f"{name}.py").read_text("utf-8"))


def written(function, is_method):
    """The function's name and arguments, without the first one of a method."""
    arguments = ast.unparse(function.args).replace(" ", "")
    if is_method:
        arguments = arguments.removeprefix("self").removeprefix(",")
        if function.name == "__init__":
            return f"({arguments})"
    return f"{function.name}({arguments})"


class InterfaceTest(unittest.TestCase):
    def test_functions(self):
        for name, wanted in FUNCTIONS.items():
            found = [written(part, False) for part in tree(name).body if isinstance(part, ast.FunctionDef)]
            for text in wanted.split():
                self.assertIn(text, found, name)

    def test_classes_and_their_methods(self):
        for (name, title), wanted in CLASSES.items():
            body = [part for part in tree(name).body if isinstance(part, ast.ClassDef) and part.name == title][0].body
            found = [written(part, True) for part in body if isinstance(part, ast.FunctionDef)]
            for text in wanted.split():
                self.assertIn(text, found, title)

    def test_errors_without_attributes(self):
        classes = {part.name: part for part in tree("errors").body if isinstance(part, ast.ClassDef)}
        self.assertEqual(ast.unparse(classes["HallError"].bases[0]), "ValueError")
        for name in PLAIN_ERRORS.split():
            self.assertEqual([ast.unparse(base) for base in classes[name].bases], ["HallError"])
            self.assertFalse([part for part in classes[name].body if isinstance(part, ast.FunctionDef)])
        self.assertEqual(len(classes), 6 + len(PLAIN_ERRORS.split()))


if __name__ == "__main__":
    unittest.main()
