"""The package against those rules of its language that can be told from the code alone."""

import ast
import builtins
import pathlib
import unittest

PACKAGE = pathlib.Path(__file__).resolve().parent.parent / "pressedwords"
BUILTINS = set("""len range enumerate zip min max sum abs sorted reversed int str bool list tuple dict set frozenset
    isinstance ord repr any all divmod pow iter next ValueError property staticmethod classmethod super map""".split())
METHODS = set("""append clear copy count endswith extend find get index insert isalnum isalpha isdigit islower isspace
    isupper items join keys ljust lower lstrip partition pop remove replace reverse rfind rjust rpartition rsplit
    rstrip setdefault split splitlines startswith strip update upper values zfill bit_length""".split())
BARRED = set("""register mro elements open input law version_info with_traceback add_note attrgetter breakpoint compile
    delattr dir eval exec exit gc globals help id importlib license locals os quit type vars sys typing enum Flag
    Generic Protocol ABC namedtuple format""".split())
BARRED_WORDS = set("""type typing typing_extensions enum Enum IntEnum StrEnum Flag IntFlag Generic Protocol ABC ABCMeta
    namedtuple NamedTuple TypedDict TYPE_CHECKING abstractmethod""".split())
SPECIAL = set("__init__ __eq__ __repr__ __str__ __len__ __iter__ __contains__".split())
STATEMENTS = (ast.Assign, ast.AugAssign, ast.If, ast.While, ast.For, ast.Return, ast.Break, ast.Continue, ast.Pass,
              ast.Raise, ast.Try, ast.Expr, ast.FunctionDef, ast.Assert, ast.Delete)
CHANGING = set("append clear extend insert pop remove reverse setdefault sort update".split())
WALKING = ("enumerate", "zip", "reversed")
VIEWS = ("items", "keys", "values")


def files():
    return sorted(PACKAGE.rglob("*.py"))


def docstrings(tree):
    found = []
    for node in ast.walk(tree):
        if isinstance(node, (ast.Module, ast.FunctionDef, ast.ClassDef)) and ast.get_docstring(node) is not None:
            found.append(node.body[0].value)
    return found


def functions(tree):
    return [node for node in ast.walk(tree) if isinstance(node, ast.FunctionDef)]


def bound_names(function):
    names = {node.arg for node in ast.walk(function) if isinstance(node, ast.arg)}
    used = [node for node in ast.walk(function) if isinstance(node, ast.Name)]
    names |= {node.id for node in used if not isinstance(node.ctx, ast.Load)}
    return names | {node.name for node in ast.walk(function) if isinstance(node, ast.ExceptHandler) and node.name}


def held(node):
    """The names, fields and items of which an expression is one itself; a copy, a sum or a call is none."""
    if isinstance(node, ast.IfExp):
        return held(node.body) + held(node.orelse)
    if isinstance(node, ast.BoolOp):
        return [part for choice in node.values for part in held(choice)]
    if isinstance(node, ast.Subscript) and isinstance(node.slice, ast.Slice):
        return []
    return [node] if isinstance(node, (ast.Name, ast.Attribute, ast.Subscript)) else []


def walked(node):
    """The names, fields and items that a loop over an expression walks itself."""
    if isinstance(node, ast.Call) and getattr(node.func, "id", None) in WALKING:
        return [part for given in node.args for part in walked(given)]
    if isinstance(node, ast.Call) and getattr(node.func, "attr", None) in VIEWS:
        return walked(node.func.value)
    if isinstance(node, (ast.IfExp, ast.BoolOp)):
        choices = [node.body, node.orelse] if isinstance(node, ast.IfExp) else node.values
        return [part for choice in choices for part in walked(choice)]
    return held(node)


def container(node):
    """The text of a name, or of the field or name of which an expression is an item."""
    while isinstance(node, ast.Subscript):
        node = node.value
    return ast.unparse(node)


def loops(tree):
    """For each loop and comprehension what is walked and the nodes in which it may be changed."""
    found = []
    for node in ast.walk(tree):
        if isinstance(node, ast.For):
            found.append((node.target, walked(node.iter), [part for row in node.body for part in ast.walk(row)]))
        for inner in getattr(node, "generators", []):
            found.append((inner.target, walked(inner.iter), list(ast.walk(node))))
    return found


def bindings(function):
    """Couples of a target of an assignment and what is assigned."""
    found = []
    for node in ast.walk(function):
        if isinstance(node, ast.Assign):
            for target in node.targets:
                if isinstance(target, ast.Tuple) and isinstance(node.value, ast.Tuple):
                    found.extend(zip(target.elts, node.value.elts))
                else:
                    found.append((target, node.value))
    return found


def joined_texts(couples):
    """For each text the set of all those to which the couples lead from it, one after another."""
    homes = {}
    for one, other in couples:
        both = homes.get(one, {one}) | homes.get(other, {other})
        for text in both:
            homes[text] = both
    return homes


def same_things(function):
    """For each text those that may name the very same thing somewhere in a function."""
    return joined_texts([(ast.unparse(target), ast.unparse(part)) for target, value in bindings(function)
                         if not isinstance(target, ast.Tuple) for part in held(value)])


def same_containers(function):
    """For each text those that may name the same thing, an item of it, or what it is an item of."""
    taken = [(target, part) for target, value in bindings(function) for part in held(value)]
    taken += [(target, part) for target, parts, _ in loops(function) for part in parts]
    couples = []
    for target, part in taken:
        names = [node for node in ast.walk(target) if isinstance(node, ast.Name)]
        for name in names if isinstance(target, ast.Tuple) else [target]:
            couples.append((container(name), container(part)))
    return joined_texts(couples)


def added_from_itself(tree):
    """The lines of what is changed by `+=` and the like, extend or update, and named in what this takes.

    A name that is assigned an item counts as the item. In a new list that extend is handed, it may stand as a part.
    """
    lines = set()
    for function in functions(tree):
        homes = same_containers(function)
        for node in ast.walk(function):
            if isinstance(node, ast.AugAssign):
                changed = container(node.target)
                named = texts_in([node.value])
            elif isinstance(node, ast.Call) and getattr(node.func, "attr", None) in ("extend", "update"):
                changed = container(node.func.value)
                inner = [part.iter for given in node.args for part in getattr(given, "generators", [])]
                named = {container(part) for given in node.args + inner for part in walked(given)}
                named |= {changed} & texts_in(node.args)
            else:
                continue
            if homes.get(changed, {changed}) & named:
                lines.add(node.lineno)
    return sorted(lines)


def texts_in(nodes):
    """The texts of all expressions in some nodes."""
    return {ast.unparse(part) for node in nodes for part in ast.walk(node) if isinstance(part, ast.expr)}


def changed_things(node):
    """The names, fields and items that a node changes, itself alone."""
    if isinstance(node, ast.Call) and isinstance(node.func, ast.Attribute) and node.func.attr in CHANGING:
        return [node.func.value]
    if isinstance(node, ast.AugAssign):
        return [node.target] + [part.value for part in [node.target] if isinstance(part, ast.Subscript)]
    if isinstance(node, (ast.Assign, ast.Delete)):
        targets = [part for target in node.targets for part in getattr(target, "elts", [target])]
        return [target.value for target in targets if isinstance(target, ast.Subscript)]
    return []


def changed_while_walked(tree):
    """The lines on which a loop or a comprehension changes what it walks, by whatever name."""
    lines = set()
    for function in functions(tree):
        homes = same_things(function)
        for _, parts, inside in loops(function):
            texts = {text for part in parts for text in homes.get(ast.unparse(part), {ast.unparse(part)})}
            for node in inside:
                if texts & {ast.unparse(thing) for thing in changed_things(node)}:
                    lines.add(node.lineno)
    return sorted(lines)


class LanguageTest(unittest.TestCase):
    def setUp(self):
        self.trees = {path: ast.parse(path.read_text(encoding="ascii")) for path in files()}

    def nodes(self, *kinds):
        for path, tree in self.trees.items():
            for node in ast.walk(tree):
                if isinstance(node, kinds):
                    yield f"{path.name}:{getattr(node, 'lineno', 0)}", node

    def test_folder_and_sizes(self):
        others = [path for path in PACKAGE.rglob("*") if path.suffix != ".py" and "__pycache__" not in str(path)]
        self.assertEqual(others, [])
        for path in files():
            text = path.read_text(encoding="ascii")
            lines = text.splitlines()
            self.assertLessEqual(len(lines), 399, path.name)
            self.assertLessEqual(max(map(len, lines)), 120, path.name)
            self.assertTrue(all(sign == "\n" or " " <= sign <= "~" for sign in text), path.name)
        for place, node in self.nodes(ast.FunctionDef):
            self.assertLessEqual(node.end_lineno - node.lineno + 1, 40, place)

    def test_imports(self):
        for path, tree in self.trees.items():
            for node in ast.walk(tree):
                self.assertNotIsInstance(node, ast.Import, path.name)
                if isinstance(node, ast.ImportFrom):
                    package, module = node.module.split(".")
                    self.assertEqual((package, node.level), ("pressedwords", 0), path.name)
                    defining = self.trees[PACKAGE / (module + ".py")]
                    there = {one.name for one in defining.body if isinstance(one, (ast.FunctionDef, ast.ClassDef))}
                    there |= {one.targets[0].id for one in defining.body if isinstance(one, ast.Assign)}
                    for alias in node.names:
                        self.assertIn(alias.name, there, path.name)
                        self.assertIsNone(alias.asname)

    def test_no_file_rests_on_itself(self):
        rests = {path.stem: {node.module.split(".")[1] for node in ast.walk(tree) if isinstance(node, ast.ImportFrom)}
                 for path, tree in self.trees.items()}
        placed = set()
        while len(placed) < len(rests):
            free = {name for name in rests if rests[name] <= placed} - placed
            self.assertTrue(free, "files import from each other")
            placed |= free

    def test_statements(self):
        for path, tree in self.trees.items():
            for node in tree.body:
                known = (ast.ImportFrom, ast.FunctionDef, ast.ClassDef, ast.Assign, ast.Expr)
                self.assertIsInstance(node, known, path.name)
            for function in functions(tree):
                for node in ast.walk(function):
                    if isinstance(node, ast.stmt):
                        self.assertIsInstance(node, STATEMENTS, f"{path.name}:{node.lineno}")
                for mark in function.decorator_list:
                    self.assertEqual(mark.id, "property", path.name)

    def test_names(self):
        plain = set(dir(builtins))
        for path, tree in self.trees.items():
            taken = {alias.name for node in tree.body if isinstance(node, ast.ImportFrom) for alias in node.names}
            taken |= {node.name for node in tree.body if isinstance(node, ast.ClassDef)}
            for function in functions(tree):
                names = bound_names(function)
                self.assertFalse(names & (plain | taken | BARRED), f"{path.name}: {function.name}")
                self.assertFalse({function.name} & (BARRED | BUILTINS), path.name)
                if function.name.startswith("__"):
                    self.assertIn(function.name, SPECIAL)
        for place, node in self.nodes(ast.Name):
            if isinstance(node.ctx, ast.Load) and node.id in plain:
                self.assertIn(node.id, BUILTINS, place)
            self.assertNotIn(node.id, BARRED, place)

    def test_methods_and_attributes(self):
        own = {node.name for _, node in self.nodes(ast.FunctionDef)}
        stored = {node.attr for _, node in self.nodes(ast.Attribute) if isinstance(node.ctx, ast.Store)}
        for place, node in self.nodes(ast.Call):
            if isinstance(node.func, ast.Attribute):
                self.assertIn(node.func.attr, METHODS | own, place)
                self.assertFalse(node.func.attr in METHODS and node.keywords, place)
        for place, node in self.nodes(ast.Attribute):
            self.assertIn(node.attr, METHODS | own | stored, place)
            self.assertNotIn(node.attr, BARRED, place)

    def test_strings_and_numbers(self):
        for path, tree in self.trees.items():
            told = docstrings(tree)
            for node in ast.walk(tree):
                if isinstance(node, ast.Constant):
                    self.assertNotIsInstance(node.value, (float, complex), path.name)
                    if isinstance(node.value, str):
                        self.assertNotIn("%", node.value)
                        self.assertFalse(node.value.endswith(("._", ".__")), path.name)
                        if node not in told:
                            self.assertFalse(set(node.value.split()) & BARRED_WORDS, path.name)
                if isinstance(node, ast.BinOp):
                    self.assertNotIsInstance(node.op, (ast.Div, ast.MatMult), path.name)

    def test_sets_and_generators(self):
        for place, node in self.nodes(ast.GeneratorExp, ast.Set, ast.SetComp, ast.Lambda):
            self.assertIsInstance(node, ast.Lambda, place)
        for path, tree in self.trees.items():
            inside = [part for node in ast.walk(tree) if isinstance(node, ast.Call) and isinstance(node.func, ast.Name)
                      and node.func.id in ("sorted", "len") for part in node.args]
            for node in ast.walk(tree):
                if isinstance(node, ast.Call) and isinstance(node.func, ast.Name) and node.func.id == "set":
                    self.assertIn(node, inside, path.name)

    def test_generators_are_iterated_at_once(self):
        made = [node.name for _, node in self.nodes(ast.FunctionDef)
                if any(isinstance(part, (ast.Yield, ast.YieldFrom)) for part in ast.walk(node))]
        every = [node.name for _, node in self.nodes(ast.FunctionDef)]
        for name in made:
            self.assertEqual(every.count(name), 1, name)
        for path, tree in self.trees.items():
            fitting = []
            for node in ast.walk(tree):
                if isinstance(node, (ast.For, ast.comprehension)):
                    fitting.append(node.iter)
                elif isinstance(node, ast.YieldFrom):
                    fitting.append(node.value)
                elif isinstance(node, ast.Call) and getattr(node.func, "id", None) in ("list", "tuple", "enumerate"):
                    fitting.extend(node.args)
            names = [node.func for node in fitting if isinstance(node, ast.Call)]
            for node in ast.walk(tree):
                if isinstance(node, ast.Name) and node.id in made:
                    self.assertIn(node, names, f"{path.name}:{node.lineno}")
            for node in fitting:
                if isinstance(node, ast.Call) and isinstance(node.func, ast.Name) and node.func.id in made:
                    for part in node.args:
                        place = f"{path.name}:{node.lineno}"
                        self.assertIsInstance(part, (ast.Name, ast.Attribute, ast.Constant), place)

    def test_nothing_is_added_to_what_it_comes_from(self):
        # L5 Iteration, L23: what `+=` and the like change is not named in what they take, nor is an item of it.
        for path, tree in self.trees.items():
            self.assertEqual(added_from_itself(tree), [], path.name)

    def test_nothing_is_changed_while_it_is_walked(self):
        # L5 Iteration, L23: what a loop walks is not changed in it, neither by its name nor by another one.
        for path, tree in self.trees.items():
            self.assertEqual(changed_while_walked(tree), [], path.name)

    def test_comparisons_by_is(self):
        for place, node in self.nodes(ast.Compare):
            for operator, other in zip(node.ops, node.comparators):
                if isinstance(operator, (ast.Is, ast.IsNot)):
                    self.assertTrue(isinstance(other, ast.Constant) and other.value in (None, True, False), place)

    def test_errors_are_own_and_raised_on_the_spot(self):
        own = {node.name for node in self.trees[PACKAGE / "errors.py"].body if isinstance(node, ast.ClassDef)}
        handled = [node for _, handler in self.nodes(ast.ExceptHandler) for node in ast.walk(handler)]
        for place, node in self.nodes(ast.Raise):
            if node.exc is None:
                self.assertIn(node, handled, place)
                continue
            self.assertIsInstance(node.exc, ast.Call, place)
            self.assertIn(node.exc.func.id, own, place)
        for place, node in self.nodes(ast.ExceptHandler):
            kinds = node.type.elts if isinstance(node.type, ast.Tuple) else [node.type]
            for kind in kinds:
                self.assertIn(kind.id, own, place)


def function_of(rows):
    """A function of these rows, which begin on line 2."""
    return ast.parse("def told(xs, ys, k):\n" + "".join(["    " + row + "\n" for row in rows]))


class FindingTest(unittest.TestCase):
    """The finding of rows against L5 Iteration and L23 by itself."""

    def test_what_is_added_to_itself(self):
        for rows, lines in [
                (["many = xs[k]", "xs[0] += many"], [3]),
                (["many = xs[k]", "xs[0] += many * 2"], [3]),
                (["many = xs[k] if k else 0", "more = many", "xs[0] -= more"], [4]),
                (["first, last = xs[k]", "xs[0] += last"], [3]),
                (["for x in xs:", "    xs[0] += x"], [3]),
                (["xs[0] += xs[k]"], [2]),
                (["self.rows[k] += self.rows[0]"], [2]),
                (["row = self.rows[k]", "self.rows.extend(row)"], [3]),
                (["row = xs[k]", "xs.extend([x + 1 for x in row[1]])"], [3]),
                (["xs.extend(xs)", "xs.extend([x for x in xs])", "xs.update(ys)"], [2, 3])]:
            with self.subTest(rows=rows):
                self.assertEqual(added_from_itself(function_of(rows)), lines)

    def test_what_is_not_added_to_itself(self):
        for rows in [
                ["many = xs[k]", "xs[0] = xs[0] + many"],
                ["many = ys[k]", "xs[0] += many"],
                ["many = xs[k] + 1", "xs[0] += many"],
                ["many = len(xs)", "many += ys[k]"],
                ["row = ys[xs.pop()]", "xs.extend([row[2], row[1]])"],
                ["first, last = xs[k]", "xs.extend([(first, last + y) for y in ys])"],
                ["for x in ys:", "    xs[x] += 1"],
                ["self.rows[k] += self.many[k]"]]:
            with self.subTest(rows=rows):
                self.assertEqual(added_from_itself(function_of(rows)), [])

    def test_what_is_changed_while_it_is_walked(self):
        for rows, lines in [
                (["for k in ys:", "    grown = []", "    for x in xs:", "        grown.append(x)",
                  "    xs = grown"], [5]),
                (["for k in ys:", "    grown = {}", "    for x, y in xs.items():", "        grown[x] = y",
                  "    xs = grown"], [5]),
                (["more = xs if k else ys", "for x in xs:", "    more.extend([x])"], [4]),
                (["more = self.rows", "for x in self.rows:", "    del more[0]"], [4]),
                (["more = xs[k]", "for x in xs[k]:", "    more[0] += 1"], [4]),
                (["for at, x in enumerate(xs):", "    xs[at] = x + 1"], [3]),
                (["for x, y in zip(ys, xs):", "    xs.pop()"], [3]),
                (["for x in xs or ys:", "    ys += [x]"], [3]),
                (["more = xs", "return [more.pop() for x in xs]"], [3]),
                (["for x in xs:", "    if x == k:", "        xs.remove(x)", "        return"], [4])]:
            with self.subTest(rows=rows):
                self.assertEqual(changed_while_walked(function_of(rows)), lines)

    def test_what_is_not_changed_while_it_is_walked(self):
        for rows in [
                ["for k in ys:", "    grown = []", "    for x in xs:", "        grown.append(x)",
                 "    xs = list(grown)"],
                ["more = xs[:]", "for x in xs:", "    more.append(x)"],
                ["more = xs", "for x in list(xs):", "    more.append(x)"],
                ["more = xs", "for x in xs[::-1]:", "    more.append(x)"],
                ["more = xs", "for x in ys:", "    more.append(x)"],
                ["for x in xs:", "    x.append(k)"],
                ["more = xs", "for x in xs:", "    k = x", "more.append(k)"],
                ["for x in self.rows:", "    self.many.append(x)"]]:
            with self.subTest(rows=rows):
                self.assertEqual(changed_while_walked(function_of(rows)), [])


if __name__ == "__main__":
    unittest.main()
