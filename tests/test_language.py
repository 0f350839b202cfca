"""The package against those rules of its language that can be told from the code alone."""

import ast
import builtins
import pathlib
import unittest

PACKAGE = pathlib.Path(__file__).resolve().parent.parent / "pressedwords"
BUILTINS = set("""len range enumerate zip min max sum abs sorted reversed int str bool list tuple dict set frozenset
    isinstance ord repr any all divmod pow iter next ValueError property staticmethod classmethod super map""".split())
METHODS = set("""append clear copy count endswith extend find get index insert isalnum isalpha isdigit islower isspace
    isupper items join keys ljust lower lstrip partition pop remove replace reverse rfind rjust rpartition rsplit
    rstrip setdefault split splitlines startswith strip update upper values zfill bit_length""".split())
BARRED = set("""register mro elements open input law version_info with_traceback add_note attrgetter breakpoint compile
    delattr dir eval exec exit gc globals help id importlib license locals os quit type vars sys typing enum Flag
    Generic Protocol ABC namedtuple format""".split())
BARRED_WORDS = set("""type typing typing_extensions enum Enum IntEnum StrEnum Flag IntFlag Generic Protocol ABC ABCMeta
    namedtuple NamedTuple TypedDict TYPE_CHECKING abstractmethod""".split())
SPECIAL = set("__init__ __eq__ __repr__ __str__ __len__ __iter__ __contains__".split())
STATEMENTS = (ast.Assign, ast.AugAssign, ast.If, ast.While, ast.For, ast.Return, ast.Break, ast.Continue, ast.Pass,
              ast.Raise, ast.Try, ast.Expr, ast.FunctionDef, ast.Assert, ast.Delete)


def files():
    return sorted(PACKAGE.rglob("*.py"))


def docstrings(tree):
    found = []
    for node in ast.walk(tree):
        if isinstance(node, (ast.Module, ast.FunctionDef, ast.ClassDef)) and ast.get_docstring(node) is not None:
            found.append(node.body[0].value)
    return found


def functions(tree):
    return [node for node in ast.walk(tree) if isinstance(node, ast.FunctionDef)]


def bound_names(function):
    names = {node.arg for node in ast.walk(function) if isinstance(node, ast.arg)}
    used = [node for node in ast.walk(function) if isinstance(node, ast.Name)]
    names |= {node.id for node in used if not isinstance(node.ctx, ast.Load)}
    return names | {node.name for node in ast.walk(function) if isinstance(node, ast.ExceptHandler) and node.name}


class LanguageTest(unittest.TestCase):
    def setUp(self):
        self.trees = {path: ast.parse(path.read_text(encoding="ascii")) for path in files()}

    def nodes(self, *kinds):
        for path, tree in self.trees.items():
            for node in ast.walk(tree):
                if isinstance(node, kinds):
                    yield f"{path.name}:{getattr(node, 'lineno', 0)}", node

    def test_folder_and_sizes(self):
        others = [path for path in PACKAGE.rglob("*") if path.suffix != ".py" and "__pycache__" not in str(path)]
        self.assertEqual(others, [])
        for path in files():
            text = path.read_text(encoding="ascii")
            lines = text.splitlines()
            self.assertLessEqual(len(lines), 399, path.name)
            self.assertLessEqual(max(map(len, lines)), 120, path.name)
            self.assertTrue(all(sign == "\n" or " " <= sign <= "~" for sign in text), path.name)
        for place, node in self.nodes(ast.FunctionDef):
            self.assertLessEqual(node.end_lineno - node.lineno + 1, 40, place)

    def test_imports(self):
        for path, tree in self.trees.items():
            for node in ast.walk(tree):
                self.assertNotIsInstance(node, ast.Import, path.name)
                if isinstance(node, ast.ImportFrom):
                    package, module = node.module.split(".")
                    self.assertEqual((package, node.level), ("pressedwords", 0), path.name)
                    defining = self.trees[PACKAGE / (module + ".py")]
                    there = {one.name for one in defining.body if isinstance(one, (ast.FunctionDef, ast.ClassDef))}
                    there |= {one.targets[0].id for one in defining.body if isinstance(one, ast.Assign)}
                    for alias in node.names:
                        self.assertIn(alias.name, there, path.name)
                        self.assertIsNone(alias.asname)

    def test_no_file_rests_on_itself(self):
        rests = {path.stem: {node.module.split(".")[1] for node in ast.walk(tree) if isinstance(node, ast.ImportFrom)}
                 for path, tree in self.trees.items()}
        placed = set()
        while len(placed) < len(rests):
            free = {name for name in rests if rests[name] <= placed} - placed
            self.assertTrue(free, "files import from each other")
            placed |= free

    def test_statements(self):
        for path, tree in self.trees.items():
            for node in tree.body:
                known = (ast.ImportFrom, ast.FunctionDef, ast.ClassDef, ast.Assign, ast.Expr)
                self.assertIsInstance(node, known, path.name)
            for function in functions(tree):
                for node in ast.walk(function):
                    if isinstance(node, ast.stmt):
                        self.assertIsInstance(node, STATEMENTS, f"{path.name}:{node.lineno}")
                for mark in function.decorator_list:
                    self.assertEqual(mark.id, "property", path.name)

    def test_names(self):
        plain = set(dir(builtins))
        for path, tree in self.trees.items():
            taken = {alias.name for node in tree.body if isinstance(node, ast.ImportFrom) for alias in node.names}
            taken |= {node.name for node in tree.body if isinstance(node, ast.ClassDef)}
            for function in functions(tree):
                names = bound_names(function)
                self.assertFalse(names & (plain | taken | BARRED), f"{path.name}: {function.name}")
                self.assertFalse({function.name} & (BARRED | BUILTINS), path.name)
                if function.name.startswith("__"):
                    self.assertIn(function.name, SPECIAL)
        for place, node in self.nodes(ast.Name):
            if isinstance(node.ctx, ast.Load) and node.id in plain:
                self.assertIn(node.id, BUILTINS, place)
            self.assertNotIn(node.id, BARRED, place)

    def test_methods_and_attributes(self):
        own = {node.name for _, node in self.nodes(ast.FunctionDef)}
        stored = {node.attr for _, node in self.nodes(ast.Attribute) if isinstance(node.ctx, ast.Store)}
        for place, node in self.nodes(ast.Call):
            if isinstance(node.func, ast.Attribute):
                self.assertIn(node.func.attr, METHODS | own, place)
                self.assertFalse(node.func.attr in METHODS and node.keywords, place)
        for place, node in self.nodes(ast.Attribute):
            self.assertIn(node.attr, METHODS | own | stored, place)
            self.assertNotIn(node.attr, BARRED, place)

    def test_strings_and_numbers(self):
        for path, tree in self.trees.items():
            told = docstrings(tree)
            for node in ast.walk(tree):
                if isinstance(node, ast.Constant):
                    self.assertNotIsInstance(node.value, (float, complex), path.name)
                    if isinstance(node.value, str):
                        self.assertNotIn("%", node.value)
                        self.assertFalse(node.value.endswith(("._", ".__")), path.name)
                        if node not in told:
                            self.assertFalse(set(node.value.split()) & BARRED_WORDS, path.name)
                if isinstance(node, ast.BinOp):
                    self.assertNotIsInstance(node.op, (ast.Div, ast.MatMult), path.name)

    def test_sets_and_generators(self):
        for place, node in self.nodes(ast.GeneratorExp, ast.Set, ast.SetComp, ast.Lambda):
            self.assertIsInstance(node, ast.Lambda, place)
        for path, tree in self.trees.items():
            inside = [part for node in ast.walk(tree) if isinstance(node, ast.Call) and isinstance(node.func, ast.Name)
                      and node.func.id in ("sorted", "len") for part in node.args]
            for node in ast.walk(tree):
                if isinstance(node, ast.Call) and isinstance(node.func, ast.Name) and node.func.id == "set":
                    self.assertIn(node, inside, path.name)

    def test_generators_are_iterated_at_once(self):
        made = [node.name for _, node in self.nodes(ast.FunctionDef)
                if any(isinstance(part, (ast.Yield, ast.YieldFrom)) for part in ast.walk(node))]
        every = [node.name for _, node in self.nodes(ast.FunctionDef)]
        for name in made:
            self.assertEqual(every.count(name), 1, name)
        for path, tree in self.trees.items():
            fitting = []
            for node in ast.walk(tree):
                if isinstance(node, (ast.For, ast.comprehension)):
                    fitting.append(node.iter)
                elif isinstance(node, ast.YieldFrom):
                    fitting.append(node.value)
                elif isinstance(node, ast.Call) and getattr(node.func, "id", None) in ("list", "tuple", "enumerate"):
                    fitting.extend(node.args)
            names = [node.func for node in fitting if isinstance(node, ast.Call)]
            for node in ast.walk(tree):
                if isinstance(node, ast.Name) and node.id in made:
                    self.assertIn(node, names, f"{path.name}:{node.lineno}")
            for node in fitting:
                if isinstance(node, ast.Call) and isinstance(node.func, ast.Name) and node.func.id in made:
                    for part in node.args:
                        place = f"{path.name}:{node.lineno}"
                        self.assertIsInstance(part, (ast.Name, ast.Attribute, ast.Constant), place)

    def test_nothing_is_added_to_what_it_comes_from(self):
        # L5 Iteration, L23: what `+=` and the like change is not named in what they take.
        for place, node in self.nodes(ast.AugAssign):
            changed = node.target
            while isinstance(changed, (ast.Subscript, ast.Attribute)):
                changed = changed.value
            names = [part.id for part in ast.walk(node.value) if isinstance(part, ast.Name)]
            self.assertNotIn(changed.id, names, place)
        for place, node in self.nodes(ast.Call):
            if isinstance(node.func, ast.Attribute) and node.func.attr in ("extend", "update"):
                changed = ast.unparse(node.func.value)
                named = [ast.unparse(part) for given in node.args for part in ast.walk(given) if isinstance(part, ast.expr)]
                self.assertNotIn(changed, named, place)

    def test_comparisons_by_is(self):
        for place, node in self.nodes(ast.Compare):
            for operator, other in zip(node.ops, node.comparators):
                if isinstance(operator, (ast.Is, ast.IsNot)):
                    self.assertTrue(isinstance(other, ast.Constant) and other.value in (None, True, False), place)

    def test_errors_are_own_and_raised_on_the_spot(self):
        own = {node.name for node in self.trees[PACKAGE / "errors.py"].body if isinstance(node, ast.ClassDef)}
        handled = [node for _, handler in self.nodes(ast.ExceptHandler) for node in ast.walk(handler)]
        for place, node in self.nodes(ast.Raise):
            if node.exc is None:
                self.assertIn(node, handled, place)
                continue
            self.assertIsInstance(node.exc, ast.Call, place)
            self.assertIn(node.exc.func.id, own, place)
        for place, node in self.nodes(ast.ExceptHandler):
            kinds = node.type.elts if isinstance(node.type, ast.Tuple) else [node.type]
            for kind in kinds:
                self.assertIn(kind.id, own, place)


if __name__ == "__main__":
    unittest.main()
