"""The files of the package keep to the subset of the language that they are written in."""

import ast
import builtins
import pathlib
import re
import unittest
import warnings

FOLDER = pathlib.Path(__file__).resolve().parent.parent / "metehouse"
FILES = sorted(FOLDER.glob("*.py"))
TREES = {path.stem: ast.parse(path.read_text()) for path in FILES}

USED_BUILTINS = set(
    "len range enumerate zip min max sum abs sorted reversed int str bool bytes list tuple dict set frozenset "
    "isinstance ord repr any all divmod Exception ValueError TypeError KeyError IndexError LookupError "
    "ZeroDivisionError ArithmeticError OverflowError RuntimeError NotImplementedError AttributeError "
    "StopIteration NotImplemented iter next super property staticmethod classmethod".split())
LIBRARY = {
    "math": {"gcd", "lcm", "isqrt", "comb", "perm", "factorial"},
    "heapq": {"heappush", "heappop", "heapify", "heapreplace", "heappushpop"},
}
SPECIAL = set(
    "__init__ __eq__ __repr__ __str__ __len__ __enter__ __exit__ __call__ __iter__ __lt__ __le__ __gt__ __ge__ __ne__ "
    "__add__ __sub__ __mul__ __floordiv__ __mod__ __pow__ __and__ __or__ __xor__ __lshift__ __rshift__ "
    "__radd__ __rsub__ __rmul__ __neg__ __pos__ __invert__ __abs__ __bool__ __contains__ __getitem__".split())
OPERATORS = SPECIAL - set("__init__ __enter__ __exit__ __call__ __iter__".split())
METHODS = set(
    "append clear copy count endswith extend find get index insert isalnum isalpha isdigit islower isspace isupper "
    "items join keys ljust lower lstrip partition pop remove replace reverse rfind rjust rpartition rsplit rstrip "
    "setdefault split splitlines startswith strip update upper values zfill bit_length".split())
BARRED = set(
    "typing typing_extensions enum Enum IntEnum StrEnum Flag IntFlag Generic Protocol ABC ABCMeta namedtuple "
    "NamedTuple TypedDict TYPE_CHECKING abstractmethod type".split())
NEVER = set(
    "register mro elements open input law version_info with_traceback add_note attrgetter breakpoint builtins "
    "compile copyright credits delattr dir eval exec exit gc getattr globals hasattr help id importlib license "
    "locals methodcaller os quit setattr type vars sys".split())
STATEMENTS = (
    ast.Assign, ast.AugAssign, ast.If, ast.While, ast.For, ast.Return, ast.Break, ast.Continue, ast.Pass, ast.Raise,
    ast.Assert, ast.Delete, ast.Nonlocal, ast.Match, ast.With, ast.Try, ast.Expr, ast.FunctionDef, ast.ClassDef,
    ast.ImportFrom)


def functions(tree):
    return [node for node in ast.walk(tree) if isinstance(node, ast.FunctionDef)]


def classes(tree):
    return [node for node in tree.body if isinstance(node, ast.ClassDef)]


def methods(owner):
    return [node for node in owner.body if isinstance(node, ast.FunctionDef)]


def parameters(function):
    spec = function.args
    found = [arg.arg for arg in spec.posonlyargs + spec.args + spec.kwonlyargs]
    return found + [arg.arg for arg in (spec.vararg, spec.kwarg) if arg is not None]


def stored(function):
    return {node.id for node in ast.walk(function) if isinstance(node, ast.Name) and isinstance(node.ctx, ast.Store)}


def decorated(function, word):
    return any(isinstance(node, ast.Name) and node.id == word for node in function.decorator_list)


def all_classes():
    return {owner.name: owner for tree in TREES.values() for owner in classes(tree)}


def attributes(owner):
    found = set()
    for node in ast.walk(owner):
        if isinstance(node, ast.Attribute) and isinstance(node.ctx, ast.Store):
            found.add(node.attr)
    return found


def properties():
    return {method.name for owner in all_classes().values() for method in methods(owner) if decorated(method, "property")}


def is_plain(node):
    """Is this a name, an attribute off a name that is no property, a literal, or a list, tuple or dict of these?"""
    if isinstance(node, (ast.List, ast.Tuple)):
        return all(is_plain(part) for part in node.elts)
    if isinstance(node, ast.Dict):
        return all(part is not None and is_plain(part) for part in node.keys + node.values)
    if isinstance(node, ast.Attribute):
        return isinstance(node.value, ast.Name) and node.attr not in properties()
    return isinstance(node, (ast.Name, ast.Constant))


def wrong_behind_star(call):
    """What stands behind the first star of a call, keywords too, and must have a name first."""
    stars = [at for at, part in enumerate(call.args) if isinstance(part, ast.Starred)]
    if not stars:
        return []
    behind = call.args[stars[0]:] + [word.value for word in call.keywords]
    parts = [part.value if isinstance(part, ast.Starred) else part for part in behind]
    return [ast.unparse(part) for part in parts if not is_plain(part)]


class TestText(unittest.TestCase):
    def test_sizes_and_characters(self):
        self.assertLessEqual(len(FILES), 100)
        for path in FILES:
            lines = path.read_text().split("\n")
            self.assertLessEqual(len(lines) - 1, 399, path.name)
            for number, line in enumerate(lines, 1):
                place = f"{path.name}:{number}"
                self.assertLessEqual(len(line), 120, place)
                self.assertTrue(all(" " <= sign <= "~" for sign in line), place)
            for function in functions(TREES[path.stem]):
                place = f"{path.name}:{function.lineno}"
                self.assertLessEqual(function.end_lineno - function.lineno + 1, 40, place)

    def test_no_other_file_in_the_package(self):
        for path in FOLDER.iterdir():
            self.assertTrue(path.suffix == ".py" or path.name == "__pycache__", path.name)

    def test_no_warning(self):
        for path in FILES:
            with warnings.catch_warnings():
                warnings.simplefilter("error")
                compile(path.read_text(), str(path), "exec")

    def test_barred_words(self):
        for path in FILES:
            text = path.read_text()
            self.assertNotRegex(text, r"Meta|\(type\)|_wall|dataclass|overload|contextmanager", path.name)
            for word in re.findall(r"\w+", text):
                self.assertNotIn(word, BARRED, path.name)

    def test_strings(self):
        for name, tree in TREES.items():
            for node in ast.walk(tree):
                if isinstance(node, ast.Constant) and isinstance(node.value, str):
                    self.assertNotIn("%", node.value, name)
                    self.assertNotIn("__", node.value, name)
                    self.assertFalse(node.value.endswith("._"), name)


class TestStatements(unittest.TestCase):
    def test_statements_and_values(self):
        for name, tree in TREES.items():
            for node in ast.walk(tree):
                place = f"{name}:{getattr(node, 'lineno', 0)}"
                if isinstance(node, ast.stmt):
                    self.assertIsInstance(node, STATEMENTS, place)
                self.assertNotIsInstance(node, (ast.Div, ast.Lambda, ast.Set, ast.SetComp, ast.Await), place)
                if isinstance(node, ast.Constant):
                    self.assertNotIsInstance(node.value, (float, complex), place)
                if isinstance(node, ast.Compare):
                    for operator, right in zip(node.ops, node.comparators):
                        if isinstance(operator, (ast.Is, ast.IsNot)):
                            self.assertIsInstance(right, ast.Constant, place)
                if isinstance(node, ast.Raise):
                    self.assertTrue(node.exc is None or isinstance(node.exc, ast.Call), place)
                if isinstance(node, ast.BinOp) and isinstance(node.op, ast.Pow):
                    self.assertIsInstance(node.right, ast.Constant, place)

    def test_module_level(self):
        kinds = (ast.Expr, ast.ImportFrom, ast.FunctionDef, ast.ClassDef, ast.Assign)
        for name, tree in TREES.items():
            bound = []
            for node in tree.body:
                self.assertIsInstance(node, kinds, name)
                if isinstance(node, ast.Expr):
                    self.assertIsInstance(node.value, ast.Constant, name)
                if isinstance(node, ast.Assign):
                    bound.append(node.targets[0].id)
                    ast.literal_eval(node.value)
                if isinstance(node, (ast.FunctionDef, ast.ClassDef)):
                    bound.append(node.name)
                if isinstance(node, ast.ImportFrom):
                    bound.extend(alias.name for alias in node.names)
            self.assertEqual(len(bound), len(set(bound)), name)

    def test_annotations_and_decorators(self):
        for name, tree in TREES.items():
            for function in functions(tree):
                self.assertIsNone(function.returns)
                for node in function.decorator_list:
                    word = node.id if isinstance(node, ast.Name) else node.attr
                    self.assertIn(word, ("property", "setter", "staticmethod", "classmethod"), name)
            for owner in classes(tree):
                self.assertEqual(owner.decorator_list, [])

    def test_lists_where_classes_compare(self):
        for name, tree in TREES.items():
            for node in ast.walk(tree):
                if isinstance(node, ast.Call) and isinstance(node.func, ast.Name):
                    if node.func.id in ("any", "all", "min", "max", "sum", "sorted"):
                        place = f"{name}:{node.lineno}"
                        self.assertNotIsInstance(node.args[0], ast.GeneratorExp, place)
                    if node.func.id == "reversed":
                        self.assertIsInstance(node.args[0], ast.Call)
                if isinstance(node, ast.Attribute):
                    self.assertNotIn(node.attr, ("sort", "format", "discard"), name)

    def test_what_a_loop_goes_over_is_not_changed(self):
        changers = ("append", "extend", "pop", "clear", "insert", "remove", "update", "reverse")
        for name, tree in TREES.items():
            for loop in [node for node in ast.walk(tree) if isinstance(node, ast.For)]:
                source = loop.iter
                while isinstance(source, ast.Call) and isinstance(source.func, ast.Attribute):
                    source = source.func.value
                if isinstance(source, ast.Call) and source.func.id in ("enumerate", "zip") and source.args:
                    source = source.args[0]
                text = ast.unparse(source)
                for node in [node for row in loop.body for node in ast.walk(row)]:
                    place = f"{name}:{loop.lineno}"
                    if isinstance(node, ast.Subscript) and not isinstance(node.ctx, ast.Load):
                        self.assertNotEqual(ast.unparse(node.value), text, place)
                    if isinstance(node, ast.Attribute) and node.attr in changers:
                        self.assertNotEqual(ast.unparse(node.value), text, place)

    def test_what_is_iterated_at_once(self):
        generators = {node.name for tree in TREES.values() for node in functions(tree)
                      if any(isinstance(part, (ast.Yield, ast.YieldFrom)) for part in ast.walk(node))}
        takers = ("list", "tuple", "dict", "sorted", "sum", "enumerate", "zip")
        for name, tree in TREES.items():
            for parent in ast.walk(tree):
                for node in ast.iter_child_nodes(parent):
                    if not isinstance(node, ast.Call):
                        continue
                    word = node.func.id if isinstance(node.func, ast.Name) else node.func.attr
                    if word not in {"range", "zip", "enumerate", "reversed", "items", "keys", "values"} | generators:
                        continue
                    place = f"{name}:{node.lineno}"
                    if isinstance(parent, (ast.For, ast.comprehension)):
                        self.assertIs(parent.iter, node, place)
                    else:
                        self.assertIsInstance(parent, ast.Call, place)
                        self.assertIn(parent.func.id, takers, place)

    def test_stars_in_calls(self):
        for name, tree in TREES.items():
            for node in ast.walk(tree):
                if isinstance(node, ast.Call):
                    place = f"{name}:{node.lineno}"
                    self.assertEqual(wrong_behind_star(node), [], place)
                    self.assertNotIn(None, [word.arg for word in node.keywords], place)
                    for star in [part for part in node.args if isinstance(part, ast.Starred)]:
                        for word in node.keywords:
                            self.assertLess((star.lineno, star.col_offset), (word.lineno, word.col_offset), place)

    def test_what_is_called_with_a_star(self):
        own = {method.name for owner in all_classes().values() for method in methods(owner)}
        errors = {owner.name for owner in classes(TREES["errors"])}
        for name, tree in TREES.items():
            for node in [node for node in ast.walk(tree) if isinstance(node, ast.Call)]:
                if any(isinstance(part, ast.Starred) for part in node.args):
                    place = f"{name}:{node.lineno}"
                    if isinstance(node.func, ast.Attribute):
                        self.assertIn(node.func.attr, own, place)
                    else:
                        self.assertNotIn(node.func.id, errors, place)
                        self.assertNotIn(node.func.id, USED_BUILTINS - {"max", "min", "zip"}, place)

    def test_what_may_stand_behind_a_star(self):
        right = ("f(*xs)", "f(rows[0], *xs)", "f(rows[0], g(1), key=len(xs))", "f(*box.rows)", "f(*[k, box.n], *(1, k))",
                 "f(*xs, n, sep=n)", "f(*xs, 1, sep='a', by={'k': [n], 2: box.n})")
        for text in right:
            self.assertEqual(wrong_behind_star(ast.parse(text).body[0].value), [], text)
        wrong = {
            "LateGauge(name, *forms, radius=numbers[0])": ["numbers[0]"],
            "f(*rows[0])": ["rows[0]"], "f(*xs[1:], n)": ["xs[1:]"], "f(*g(n))": ["g(n)"],
            "f(*box.inner.rows)": ["box.inner.rows"],
            "f(*house.limit, *xs)": ["house.limit"], "f(*xs, rows[0], by=g(n))": ["rows[0]", "g(n)"],
            "f(*xs, by=track.now)": ["track.now"], "f(*xs, n + 1)": ["n + 1"], "f(*xs, (n, g(n)))": ["(n, g(n))"],
            "f(*[x for x in xs])": ["[x for x in xs]"], "f(*(xs if n else ys))": ["xs if n else ys"]}
        for text, parts in wrong.items():
            self.assertEqual(wrong_behind_star(ast.parse(text).body[0].value), parts, text)


class TestNames(unittest.TestCase):
    def test_imports(self):
        for name, tree in TREES.items():
            for node in [node for node in ast.walk(tree) if isinstance(node, ast.ImportFrom)]:
                self.assertIn(node, tree.body)
                self.assertEqual(node.level, 0)
                if node.module in LIBRARY:
                    self.assertLessEqual({alias.name for alias in node.names}, LIBRARY[node.module])
                    continue
                package, stem = node.module.split(".")
                self.assertEqual(package, "metehouse")
                defined = [row.name for row in TREES[stem].body if isinstance(row, (ast.FunctionDef, ast.ClassDef))]
                defined += [row.targets[0].id for row in TREES[stem].body if isinstance(row, ast.Assign)]
                for alias in node.names:
                    self.assertIsNone(alias.asname)
                    self.assertIn(alias.name, defined, name)

    def test_imports_make_no_ring(self):
        needs = {}
        for name, tree in TREES.items():
            rows = [row for row in tree.body if isinstance(row, ast.ImportFrom) and row.module not in LIBRARY]
            needs[name] = {row.module.split(".")[1] for row in rows}
        while needs:
            free = [name for name in needs if not needs[name]]
            self.assertTrue(free, needs)
            for name in free:
                del needs[name]
            needs = {name: rest - set(free) for name, rest in needs.items()}

    def test_imports_are_used(self):
        for name, tree in TREES.items():
            used = {node.id for node in ast.walk(tree) if isinstance(node, ast.Name)}
            for row in [row for row in tree.body if isinstance(row, ast.ImportFrom)]:
                for alias in row.names:
                    self.assertIn(alias.name, used, name)

    def test_local_names(self):
        everything = set(dir(builtins))
        for name, tree in TREES.items():
            taken = {owner.name for owner in classes(tree)}
            for row in tree.body:
                if isinstance(row, ast.ImportFrom):
                    taken |= {alias.name for alias in row.names}
            for function in functions(tree):
                place = f"{name}:{function.lineno}"
                names = set(parameters(function)) | stored(function)
                self.assertFalse(names & taken, place)
                self.assertFalse(names & everything, (place, names & everything))
                self.assertFalse(names & NEVER, place)
                self.assertFalse(any(word.startswith("__") for word in names), place)

    def test_builtins(self):
        own = {"__name__"}
        for name, tree in TREES.items():
            for node in ast.walk(tree):
                if isinstance(node, ast.Name) and hasattr(builtins, node.id):
                    self.assertIn(node.id, USED_BUILTINS | own, f"{name}:{node.lineno}")

    def test_called_methods_exist(self):
        own = {method.name for owner in all_classes().values() for method in methods(owner)}
        attribute_names = {word for owner in all_classes().values() for word in attributes(owner)}
        for name, tree in TREES.items():
            for node in ast.walk(tree):
                if isinstance(node, ast.Call) and isinstance(node.func, ast.Attribute):
                    word = node.func.attr
                    self.assertIn(word, METHODS | own | attribute_names, f"{name}:{node.lineno}")

    def test_read_attributes_exist(self):
        known = {method.name for owner in all_classes().values() for method in methods(owner)} | METHODS
        for owner in all_classes().values():
            known |= attributes(owner)
            known |= {row.targets[0].id for row in owner.body if isinstance(row, ast.Assign)}
        for name, tree in TREES.items():
            for node in ast.walk(tree):
                if isinstance(node, ast.Attribute):
                    self.assertIn(node.attr, known | {"setter"}, f"{name}:{node.lineno}")


class TestClasses(unittest.TestCase):
    def test_methods(self):
        for owner in all_classes().values():
            names = [method.name for method in methods(owner)]
            plain = [method.name for method in methods(owner) if not method.decorator_list]
            self.assertEqual(len(plain), len(set(plain)), owner.name)
            for word in names:
                if word.startswith("__"):
                    self.assertIn(word, SPECIAL, owner.name)
                self.assertFalse(word in NEVER, word)
                for value in ("", 0, [], {}, set(), b""):
                    if hasattr(value, word) and not word.startswith("__"):
                        self.assertIn(word, METHODS | {"add", "discard"}, (owner.name, word))
            if "__getitem__" in names:
                self.assertIn("__iter__", names)

    def test_families(self):
        known = all_classes()
        with_family = set()
        for owner in known.values():
            for base in owner.bases:
                self.assertTrue(base.id in known or base.id in USED_BUILTINS)
                with_family |= {owner.name, base.id}
        for owner in known.values():
            if owner.name in with_family:
                for method in methods(owner):
                    self.assertNotIn(method.name, ("__radd__", "__rsub__", "__rmul__"), owner.name)

    def test_names_of_static_methods_properties_and_generators(self):
        known = all_classes()
        everything = [method for owner in known.values() for method in methods(owner)]
        plain = [method.name for method in everything if not method.decorator_list]
        found = {word for owner in known.values() for word in attributes(owner)}
        for method in everything:
            if decorated(method, "staticmethod") or decorated(method, "classmethod"):
                self.assertNotIn(method.name, plain)
                self.assertNotIn(method.name, found)
            if decorated(method, "property"):
                self.assertNotIn(method.name, plain)
        generators = [node.name for tree in TREES.values() for node in functions(tree)
                      if any(isinstance(part, (ast.Yield, ast.YieldFrom)) for part in ast.walk(node))]
        names = [node.name for tree in TREES.values() for node in functions(tree)]
        for word in generators:
            self.assertEqual(names.count(word), 1, word)

    def test_no_name_is_both_a_method_and_an_attribute(self):
        known = all_classes()
        called = {method.name: owner.name for owner in known.values() for method in methods(owner)
                  if not method.decorator_list}
        for owner in known.values():
            self.assertFalse(attributes(owner) & set(called), (owner.name, attributes(owner) & set(called)))

    def test_attribute_names(self):
        barred = set("items keys values pop update append clear extend insert remove reverse setdefault sort args encode decode "
                     "hex fromhex format format_map mro as_integer_ratio bit_count conjugate from_bytes is_integer "
                     "to_bytes".split()) | (NEVER & set("register mro elements open input law version_info".split()))
        for owner in all_classes().values():
            self.assertFalse(attributes(owner) & barred, owner.name)
            self.assertFalse({method.name for method in methods(owner)} & {"keys"}, owner.name)

    def test_exit_methods_only_put_attributes_back(self):
        for owner in all_classes().values():
            for method in [row for row in methods(owner) if row.name == "__exit__"]:
                for row in method.body:
                    self.assertIsInstance(row, ast.Assign)
                    self.assertIsInstance(row.targets[0], ast.Attribute)
                    self.assertIsInstance(row.value, ast.Attribute)

    def test_generators_yield_plainly(self):
        for tree in TREES.values():
            for node in ast.walk(tree):
                if isinstance(node, (ast.With, ast.Try)):
                    for part in ast.walk(node):
                        self.assertNotIsInstance(part, (ast.Yield, ast.YieldFrom))

    def test_double_underscore_methods_assign_nothing(self):
        for owner in all_classes().values():
            for method in methods(owner):
                if method.name in OPERATORS or decorated(method, "property"):
                    for node in ast.walk(method):
                        self.assertNotIsInstance(node, (ast.AugAssign, ast.Delete, ast.Yield), owner.name)
                        if isinstance(node, (ast.Attribute, ast.Subscript)):
                            self.assertIsInstance(node.ctx, ast.Load, (owner.name, method.name))
                if method.name in ("__str__", "__len__", "__eq__", "__repr__"):
                    self.assertIsInstance(method.body[-1], ast.Return)
                if method.name == "__len__":
                    self.assertEqual(method.body[-1].value.func.id, "len")


class TestWhatOperatorsRun(unittest.TestCase):
    """Operators, properties and the like change nothing, nor does what they call."""

    def reached(self):
        everything = {}
        for tree in TREES.values():
            for node in functions(tree):
                everything.setdefault(node.name, []).append(node)
        makers = {owner.name: [row for row in methods(owner) if row.name == "__init__"]
                  for owner in all_classes().values()}
        todo = []
        for owner in all_classes().values():
            for method in methods(owner):
                if method.name in OPERATORS or decorated(method, "property"):
                    todo.append(method)
        seen = []
        while todo:
            function = todo.pop()
            if any(function is other for other in seen):
                continue
            seen.append(function)
            for node in ast.walk(function):
                if isinstance(node, ast.Call):
                    word = node.func.id if isinstance(node.func, ast.Name) else node.func.attr
                    todo.extend(everything.get(word, []) if word != "__init__" else [])
                    todo.extend(makers.get(word, []))
        return seen

    def own_containers(self, function):
        makers = (ast.List, ast.Dict, ast.ListComp)
        found = set()
        for node in ast.walk(function):
            if isinstance(node, ast.Assign) and isinstance(node.targets[0], ast.Name):
                if isinstance(node.value, makers):
                    found.add(node.targets[0].id)
        return found

    def test_nothing_is_changed(self):
        for function in self.reached():
            place = f"{function.name}:{function.lineno}"
            own = self.own_containers(function)
            for node in ast.walk(function):
                if isinstance(node, ast.Attribute) and not isinstance(node.ctx, ast.Load):
                    self.assertEqual(function.name, "__init__", place)
                    self.assertEqual(node.value.id, "self", place)
                if isinstance(node, ast.Subscript) and not isinstance(node.ctx, ast.Load):
                    self.assertIn(ast.unparse(node.value), own, place)
                if isinstance(node, ast.AugAssign):
                    self.assertIsInstance(node.target, ast.Name, place)
                    self.assertIsInstance(node.value, ast.Constant, place)
                if isinstance(node, ast.Call) and isinstance(node.func, ast.Attribute):
                    if node.func.attr in ("append", "extend", "pop", "update", "clear", "insert", "remove"):
                        self.assertIn(ast.unparse(node.func.value), own, place)
                if isinstance(node, ast.Call) and isinstance(node.func, ast.Name):
                    self.assertNotIn(node.func.id, parameters(function), place)


if __name__ == "__main__":
    unittest.main()
