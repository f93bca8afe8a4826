"""The rules of the Python subset that a reader of the syntax tree can check."""

import ast
import builtins
import pathlib
import re
import unittest

FOLDER = pathlib.Path(__file__).resolve().parent.parent / "joinedends"
FILES = sorted(FOLDER.glob("*.py"))
TREES = {path.stem: ast.parse(path.read_text("utf-8")) for path in FILES}

BUILTINS = set("""len range enumerate zip min max sum abs sorted reversed int str bool list tuple dict set isinstance
    ord repr any all divmod iter ValueError KeyError ZeroDivisionError""".split())
METHODS = set("""append clear copy count endswith extend find get index insert isalnum isalpha isdigit islower isspace
    isupper items join keys ljust lower lstrip partition pop remove replace reverse rfind rjust rpartition rsplit
    rstrip setdefault split splitlines startswith strip update upper values zfill bit_length""".split())
SPECIAL = {"__init__", "__len__", "__contains__", "__iter__"}
BARRED = set("""register mro elements open input law version_info with_traceback add_note attrgetter breakpoint builtins
    compile copyright credits delattr dir eval exec exit gc getattr globals hasattr help id importlib license locals
    methodcaller os quit setattr super type vars sys map""".split())
WORDS = re.compile(r"""\b(type|typing|typing_extensions|enum|Enum|IntEnum|StrEnum|Flag|IntFlag|Generic|Protocol|ABC
    |ABCMeta|namedtuple|NamedTuple|TypedDict|TYPE_CHECKING|abstractmethod)\b
    |dataclass|overload|contextmanager|_wall|_WallAttr|\(type\)|Meta|metaclass=""", re.VERBOSE)
STATEMENTS = (ast.Assign, ast.AugAssign, ast.If, ast.While, ast.For, ast.Return, ast.Break, ast.Continue, ast.Pass,
              ast.Raise, ast.Assert, ast.Delete, ast.Try, ast.Expr, ast.FunctionDef, ast.ClassDef, ast.ImportFrom)
VIEWS = {"zip", "enumerate", "reversed", "range"}
CHANGING = {"append", "clear", "extend", "insert", "pop", "remove", "reverse", "setdefault", "update", "add"}
LIBRARY = {"heapq": {"heappush", "heappop", "heapify", "heapreplace", "heappushpop"}}
TAKERS = {"list", "tuple", "dict", "sorted", "sum", "any", "all", "enumerate", "zip", "min", "max"}


def walk_all():
    for name, tree in TREES.items():
        for node in ast.walk(tree):
            yield name, node


def parents_of(tree):
    return {child: node for node in ast.walk(tree) for child in ast.iter_child_nodes(node)}


def called(node):
    return node.func.id if isinstance(node, ast.Call) and isinstance(node.func, ast.Name) else None


def place(node):
    """The name, attribute or item that a value is read from, or None if the value is a new one."""
    while isinstance(node, ast.Call) and called(node) in VIEWS or isinstance(node, ast.Call) and node.args == [] \
            and isinstance(node.func, ast.Attribute) and node.func.attr in ("items", "keys", "values"):
        node = node.args[0] if node.args else node.func.value
    return ast.unparse(node) if isinstance(node, (ast.Name, ast.Attribute, ast.Subscript)) else None


def same_places(function):
    """For each name or place of a function, all that may be the same object by plain assignments."""
    groups = {}
    for node in ast.walk(function):
        if isinstance(node, ast.Assign):
            values = [node.value]
            if isinstance(node.value, ast.IfExp):
                values = [node.value.body, node.value.orelse]
            for one in node.targets:
                for other in values:
                    if place(one) and place(other):
                        group = groups.get(place(one), {place(one)}) | groups.get(place(other), {place(other)})
                        groups.update({name: group for name in group})
    return groups


def changed_places(body):
    """The names and places that some statements change."""
    for statement in body:
        for node in ast.walk(statement):
            if isinstance(node, ast.Call) and isinstance(node.func, ast.Attribute) and node.func.attr in CHANGING:
                yield place(node.func.value)
            elif isinstance(node, ast.Subscript) and not isinstance(node.ctx, ast.Load):
                yield place(node.value)


def bound_names(function):
    for node in ast.walk(function):
        if isinstance(node, ast.Name) and isinstance(node.ctx, ast.Store):
            yield node.id
        elif isinstance(node, ast.arg):
            yield node.arg


class LanguageTest(unittest.TestCase):
    def test_the_folder_and_the_characters(self):
        found = [path.name for path in FOLDER.iterdir() if path.name != "__pycache__"]
        self.assertEqual(sorted(found), [path.name for path in FILES])
        for path in FILES:
            text = path.read_text("utf-8")
            lines = text.split("\n")
            self.assertLessEqual(len(lines) - 1, 399, path)
            self.assertLessEqual(max(len(line) for line in lines), 120, path)
            self.assertTrue(all(letter == "\n" or " " <= letter <= "~" for letter in text), path)
            self.assertIsNone(WORDS.search(text), path)

    def test_sizes_of_functions(self):
        for name, node in walk_all():
            if isinstance(node, ast.FunctionDef):
                self.assertLessEqual(node.end_lineno - node.lineno + 1, 40, (name, node.name))

    def test_statements(self):
        for name, node in walk_all():
            if isinstance(node, ast.stmt):
                self.assertIsInstance(node, STATEMENTS, (name, node.lineno))
            if isinstance(node, (ast.FunctionDef, ast.ClassDef)):
                self.assertEqual(node.decorator_list, [])
            if isinstance(node, ast.FunctionDef):
                self.assertIsNone(node.returns)
            if isinstance(node, ast.arg):
                self.assertIsNone(node.annotation)
            if isinstance(node, ast.Expr):
                self.assertIsInstance(node.value, (ast.Call, ast.Constant))
            self.assertNotIsInstance(node, (ast.Div, ast.Set, ast.SetComp, ast.Yield, ast.YieldFrom, ast.Await,
                                            ast.GeneratorExp, ast.Lambda, ast.NamedExpr))
            if isinstance(node, ast.Constant):
                self.assertNotIsInstance(node.value, (float, bytes))
                self.assertNotIn("%", node.value if isinstance(node.value, str) else "")

    def test_module_level(self):
        for name, tree in TREES.items():
            for node in tree.body:
                self.assertIsInstance(node, (ast.Expr, ast.ImportFrom, ast.FunctionDef, ast.ClassDef, ast.Assign))
                if isinstance(node, ast.Assign):
                    self.assertEqual(len(node.targets), 1)
                    ast.literal_eval(node.value)

    def test_imports(self):
        graph = {name: set() for name in TREES}
        for name, node in walk_all():
            if isinstance(node, ast.ImportFrom):
                self.assertEqual(node.level, 0)
                if node.module in LIBRARY:
                    self.assertLessEqual({alias.name for alias in node.names}, LIBRARY[node.module])
                    continue
                package, source = node.module.split(".")
                self.assertEqual(package, "joinedends")
                graph[name].add(source)
                defined = {part.name for part in TREES[source].body
                           if isinstance(part, (ast.FunctionDef, ast.ClassDef))}
                for part in TREES[source].body:
                    if isinstance(part, ast.Assign):
                        defined.add(part.targets[0].id)
                for alias in node.names:
                    self.assertIsNone(alias.asname)
                    self.assertIn(alias.name, defined)
        while graph:
            free = [name for name in graph if not graph[name] & set(graph)]
            self.assertTrue(free, "imports in a circle")
            graph = {name: graph[name] for name in graph if name not in free}

    def test_imported_names_are_used(self):
        for name, tree in TREES.items():
            used = {node.id for node in ast.walk(tree) if isinstance(node, ast.Name)}
            for node in ast.walk(tree):
                if isinstance(node, ast.ImportFrom):
                    for alias in node.names:
                        self.assertIn(alias.name, used, name)

    def test_what_the_library_gives_is_only_called(self):
        for name, tree in TREES.items():
            parents = parents_of(tree)
            taken = {alias.name for node in tree.body if isinstance(node, ast.ImportFrom) and node.module in LIBRARY
                     for alias in node.names}
            for node in ast.walk(tree):
                if isinstance(node, ast.Name) and node.id in taken:
                    self.assertIs(parents[node].func, node, (name, node.lineno))
                    self.assertEqual(parents[node].keywords, [])

    def test_names(self):
        own = set(dir(builtins)) | BARRED
        for name, tree in TREES.items():
            fixed = {node.name for node in tree.body if isinstance(node, ast.ClassDef)}
            for node in tree.body:
                if isinstance(node, ast.ImportFrom):
                    fixed.update(alias.name for alias in node.names)
            for node in ast.walk(tree):
                if isinstance(node, ast.FunctionDef):
                    if node.name.startswith("__"):
                        self.assertIn(node.name, SPECIAL)
                    self.assertNotIn(node.name, own)
                    for bound in bound_names(node):
                        self.assertNotIn(bound, own | fixed, (name, node.name))
                        self.assertFalse(bound.startswith("__"))
                elif isinstance(node, ast.ClassDef):
                    self.assertTrue(node.name[0].isalpha())
                elif isinstance(node, ast.Name) and node.id == "_":
                    self.assertIsInstance(node.ctx, ast.Store)

    def test_builtins_and_methods(self):
        methods = {part.name for _, node in walk_all() if isinstance(node, ast.ClassDef) for part in node.body
                   if isinstance(part, ast.FunctionDef)}
        for name, tree in TREES.items():
            for node in ast.walk(tree):
                if isinstance(node, ast.Call) and isinstance(node.func, ast.Attribute):
                    self.assertIn(node.func.attr, METHODS | methods, (name, node.lineno))
                if isinstance(node, ast.Name) and node.id in dir(builtins):
                    self.assertIn(node.id, BUILTINS, (name, node.lineno))
                if called(node) in BUILTINS - {"sorted", "min", "max", "sum", "enumerate"}:
                    self.assertEqual(node.keywords, [])

    def test_attributes(self):
        stored = {node.attr for _, node in walk_all()
                  if isinstance(node, ast.Attribute) and isinstance(node.ctx, ast.Store)}
        methods = {part.name for _, node in walk_all() if isinstance(node, ast.ClassDef) for part in node.body
                   if isinstance(part, ast.FunctionDef)}
        self.assertEqual(stored & methods & {"add", "discard", "sort"}, set())
        for name, node in walk_all():
            if isinstance(node, ast.Attribute) and isinstance(node.ctx, ast.Load):
                self.assertIn(node.attr, stored | methods | METHODS, (name, node.lineno))

    def test_errors(self):
        own = {node.name for node in TREES["errors"].body if isinstance(node, ast.ClassDef)}
        for name, node in walk_all():
            if isinstance(node, ast.Raise) and node.exc is not None:
                self.assertIn(called(node.exc), own, (name, node.lineno))
            if isinstance(node, ast.ExceptHandler):
                kinds = node.type.elts if isinstance(node.type, ast.Tuple) else [node.type]
                for kind in kinds:
                    self.assertIn(kind.id, own | {"KeyError"}, (name, node.lineno))

    def test_sets_and_views_are_taken_at_once(self):
        for name, tree in TREES.items():
            parents = parents_of(tree)
            for node in ast.walk(tree):
                is_view = called(node) in VIEWS or (
                    isinstance(node, ast.Call) and isinstance(node.func, ast.Attribute)
                    and node.func.attr in ("items", "keys", "values") and not node.args)
                above = parents.get(node)
                if is_view:
                    is_iterated = isinstance(above, (ast.For, ast.comprehension)) and above.iter is node
                    is_taken = called(above) in TAKERS and above.args[0] is node
                    self.assertTrue(is_iterated or is_taken, (name, node.lineno))
                if called(node) == "set":
                    is_taken = called(above) in ("sorted", "len") or isinstance(above, ast.Compare)
                    self.assertTrue(is_taken, (name, node.lineno))

    def test_what_a_loop_iterates_over_is_not_changed_in_it(self):
        for name, function in walk_all():
            if isinstance(function, ast.FunctionDef):
                groups = same_places(function)
                for node in ast.walk(function):
                    if isinstance(node, ast.For):
                        taken = groups.get(place(node.iter), {place(node.iter)}) - {None}
                        self.assertEqual(taken & set(changed_places(node.body)), set(), (name, node.lineno))

    def test_what_stands_behind_a_star_of_a_call(self):
        for name, node in walk_all():
            if isinstance(node, ast.Call):
                for part in node.args:
                    if isinstance(part, ast.Starred):
                        self.assertIsInstance(part.value, (ast.Name, ast.Attribute), (name, node.lineno))

    def test_no_extra_parameters(self):
        for name, node in walk_all():
            if isinstance(node, ast.arguments):
                self.assertIsNone(node.vararg)
                self.assertIsNone(node.kwarg)
                for default in node.defaults + node.kw_defaults:
                    if default is not None:
                        ast.literal_eval(default)


if __name__ == "__main__":
    unittest.main()
