"""The rules of LANGUAGE.md that can be told from the files of the package one by one."""

import ast
import builtins
import os
import re
import unittest

ROOT = os.path.join(os.path.dirname(os.path.abspath(__file__)), "..")
FOLDER = os.path.join(ROOT, "lanesmeet")
FILES = sorted(name for name in os.listdir(FOLDER) if name.endswith(".py"))

STATEMENTS = (
    ast.Assign, ast.AugAssign, ast.If, ast.While, ast.For, ast.Return, ast.Break, ast.Continue, ast.Pass,
    ast.Raise, ast.Assert, ast.Delete, ast.Expr, ast.FunctionDef, ast.ClassDef, ast.Try, ast.ImportFrom)
BUILTINS = {
    "len", "range", "enumerate", "zip", "min", "max", "sum", "abs", "sorted", "reversed", "int", "str", "bool",
    "list", "tuple", "dict", "set", "isinstance", "ord", "repr", "any", "all", "divmod", "super", "ValueError"}
ONCE = {"zip", "enumerate", "reversed", "range"}
TAKERS = {"list", "tuple", "dict", "sorted", "sum", "any", "all", "enumerate", "zip", "min", "max"}
METHODS = set(
    "append clear copy count endswith extend find get index insert isalnum isalpha isdigit islower isspace "
    "isupper items join keys ljust lower lstrip partition pop remove replace reverse rfind rjust rpartition "
    "rsplit rstrip setdefault split splitlines startswith strip update upper values zfill bit_length "
    "__init__".split())
CHANGES = {"append", "clear", "extend", "insert", "pop", "remove", "reverse", "setdefault", "update"}
NO_ATTRIBUTES = set(
    "items keys values pop update append clear extend insert remove reverse setdefault sort args encode decode "
    "hex fromhex format format_map mro".split())
BARRED = {"register", "mro", "elements", "open", "input", "law", "version_info", "with_traceback", "add_note"}
BARRED_NAMES = {
    "attrgetter", "breakpoint", "builtins", "compile", "copyright", "credits", "delattr", "dir", "eval", "exec",
    "exit", "gc", "getattr", "globals", "hasattr", "help", "id", "importlib", "license", "locals", "methodcaller",
    "os", "quit", "setattr", "type", "vars", "sys"}
BARRED_WORDS = {
    "type", "typing", "typing_extensions", "enum", "Enum", "IntEnum", "StrEnum", "Flag", "IntFlag", "Generic",
    "Protocol", "ABC", "ABCMeta", "namedtuple", "NamedTuple", "TypedDict", "TYPE_CHECKING", "abstractmethod",
    "_wall", "_WallAttr"}
SPECIAL = {"__init__", "__eq__", "__contains__", "__bool__", "__or__", "__and__", "__sub__", "__invert__"}
ORDER = (
    "errors differences sayings papers kernels regions texts meaning machine beside parted races orders steps hits "
    "needed edges trimming covers binomials told costs lines traffic banks placings nests carries maps judge "
    "stories changes heights rounds plans making wrongs gaps traces live").split()


def text_of_file(name):
    with open(os.path.join(FOLDER, name), encoding="utf-8") as file:
        return file.read()


TREES = {name: ast.parse(text_of_file(name)) for name in FILES}


def parents_of(tree):
    found = {}
    for node in ast.walk(tree):
        for child in ast.iter_child_nodes(node):
            found[child] = node
    return found


def docstrings_of(tree):
    found = set()
    for node in ast.walk(tree):
        if isinstance(node, (ast.Module, ast.FunctionDef, ast.ClassDef)) and node.body:
            first = node.body[0]
            if isinstance(first, ast.Expr) and isinstance(first.value, ast.Constant):
                found.add(first.value)
    return found


def own_methods():
    found = set()
    for tree in TREES.values():
        for node in ast.walk(tree):
            if isinstance(node, ast.ClassDef):
                found.update(item.name for item in node.body if isinstance(item, ast.FunctionDef))
    return found


def is_plain(node):
    """Whether what a name at module level is assigned is a plain value."""
    if isinstance(node, ast.Constant):
        return isinstance(node.value, (int, str, bool, type(None)))
    if isinstance(node, (ast.Tuple, ast.List)):
        return all(is_plain(item) for item in node.elts)
    if isinstance(node, ast.Dict):
        return all(is_plain(item) for item in list(node.keys) + list(node.values))
    return isinstance(node, ast.UnaryOp) and is_plain(node.operand)


class Language(unittest.TestCase):
    def each(self):
        for name in FILES:
            yield name, TREES[name], text_of_file(name)

    def test_files(self):
        self.assertLessEqual(len(FILES), 100)
        others = [name for name in os.listdir(FOLDER) if not name.endswith(".py") and name != "__pycache__"]
        self.assertEqual(others, [])
        for name, _, text in self.each():
            self.assertRegex(name, r"^(__init__|[a-z][a-z0-9_]*)\.py$")
            self.assertNotIn(name[:-3], dir(builtins))
            lines = text.split("\n")
            self.assertLessEqual(len(lines) - 1, 399, name)
            for at, line in enumerate(lines):
                self.assertLessEqual(len(line), 120, (name, at + 1))
                self.assertRegex(line, r"^[ -~]*$", (name, at + 1))
            self.assertTrue(text.endswith("\n"))

    def test_functions_are_short(self):
        for name, tree, _ in self.each():
            for node in ast.walk(tree):
                if isinstance(node, ast.FunctionDef):
                    self.assertLessEqual(node.end_lineno - node.lineno + 1, 40, (name, node.name))
                    self.assertEqual(node.decorator_list, [], (name, node.name))
                    self.assertIsNone(node.returns)
                    arguments = node.args
                    self.assertEqual((arguments.vararg, arguments.kwarg), (None, None))
                    for item in arguments.args:
                        self.assertIsNone(item.annotation)

    def test_statements(self):
        for name, tree, _ in self.each():
            for node in ast.walk(tree):
                place = (name, getattr(node, "lineno", 0))
                if isinstance(node, ast.stmt):
                    self.assertIsInstance(node, STATEMENTS, place)
                self.assertNotIsInstance(node, (
                    ast.GeneratorExp, ast.Yield, ast.YieldFrom, ast.Await, ast.NamedExpr, ast.Starred, ast.Div,
                    ast.SetComp, ast.Global, ast.Nonlocal), place)
                if isinstance(node, ast.Set):
                    self.fail(place)
                if isinstance(node, ast.Try):
                    for handler in node.handlers:
                        self.assertIsInstance(handler.type, ast.Name, place)
                if isinstance(node, ast.BinOp) and isinstance(node.op, ast.Pow):
                    self.assertIsInstance(node.right, ast.Constant, place)
                if isinstance(node, ast.Raise) and node.exc is not None:
                    self.assertIsInstance(node.exc, ast.Call, place)
                    self.assertIsInstance(node.exc.func, ast.Name, place)
                if isinstance(node, ast.Expr):
                    self.assertIsInstance(node.value, (ast.Call, ast.Constant), place)
                if isinstance(node, ast.AugAssign):
                    self.fail(("+= is kept out, for operators may run it", place))

    def test_module_level(self):
        for name, tree, _ in self.each():
            seen_other = False
            for at, node in enumerate(tree.body):
                place = (name, node.lineno)
                if isinstance(node, ast.ImportFrom):
                    self.assertFalse(seen_other, place)
                elif isinstance(node, ast.Expr):
                    self.assertEqual(at, 0, place)
                    self.assertIsInstance(node.value, ast.Constant)
                else:
                    seen_other = True
                    self.assertIsInstance(node, (ast.FunctionDef, ast.ClassDef, ast.Assign), place)
                if isinstance(node, ast.Assign):
                    self.assertEqual(len(node.targets), 1, place)
                    self.assertIsInstance(node.targets[0], ast.Name, place)
                    self.assertTrue(is_plain(node.value), place)

    def test_imports(self):
        defined = {}
        for name, tree, _ in self.each():
            own = [node.name for node in tree.body if isinstance(node, (ast.FunctionDef, ast.ClassDef))]
            own += [node.targets[0].id for node in tree.body if isinstance(node, ast.Assign)]
            self.assertEqual(len(own), len(set(own)), name)
            defined[name[:-3]] = own
        needs = {}
        for name, tree, _ in self.each():
            needs[name[:-3]] = set()
            bound = list(defined[name[:-3]])
            for node in ast.walk(tree):
                if isinstance(node, ast.Import):
                    self.fail((name, node.lineno))
                if isinstance(node, ast.ImportFrom):
                    self.assertEqual(node.level, 0)
                    self.assertTrue(node.module.startswith("lanesmeet."), (name, node.lineno))
                    module = node.module[len("lanesmeet."):]
                    needs[name[:-3]].add(module)
                    for alias in node.names:
                        self.assertIsNone(alias.asname)
                        self.assertIn(alias.name, defined[module], (name, node.lineno))
                        bound.append(alias.name)
            self.assertEqual(len(bound), len(set(bound)), (name, [word for word in bound if bound.count(word) > 1]))
        reached = {}

        def reach(module, path):
            self.assertNotIn(module, path)
            if module not in reached:
                reached[module] = set()
                for other in needs[module]:
                    reached[module] |= {other} | reach(other, path + [module])
            return reached[module]

        for module in needs:
            for other in reach(module, []):
                if module in ORDER and other in ORDER:
                    self.assertLess(ORDER.index(other), ORDER.index(module), (module, other))

    def test_imports_are_used(self):
        for name, tree, _ in self.each():
            used = {node.id for node in ast.walk(tree) if isinstance(node, ast.Name)}
            for node in tree.body:
                if isinstance(node, ast.ImportFrom):
                    for alias in node.names:
                        self.assertIn(alias.name, used, (name, alias.name))

    def test_own_functions_are_used(self):
        listed = set()
        for name, tree, _ in self.each():
            if name[:-3] in ORDER:
                listed.update(node.name for node in tree.body if isinstance(node, (ast.FunctionDef, ast.ClassDef)))
        used = set()
        for _, tree, _ in self.each():
            used |= {node.id for node in ast.walk(tree) if isinstance(node, ast.Name)}
        for name, tree, _ in self.each():
            if name[:-3] not in ORDER:
                for node in tree.body:
                    if isinstance(node, (ast.FunctionDef, ast.ClassDef)):
                        self.assertIn(node.name, used, name)

    def test_names(self):
        for name, tree, _ in self.each():
            outer = {alias.name for node in tree.body if isinstance(node, ast.ImportFrom) for alias in node.names}
            outer |= {node.name for node in tree.body if isinstance(node, ast.ClassDef)}
            functions = {node.name for node in tree.body if isinstance(node, ast.FunctionDef)}
            for node in ast.walk(tree):
                word = None
                if isinstance(node, ast.Name) and isinstance(node.ctx, (ast.Store, ast.Del)):
                    word = node.id
                    self.assertNotIn(word, outer | functions, (name, node.lineno))
                if isinstance(node, ast.arg):
                    word = node.arg
                    self.assertNotIn(word, outer, (name, node.lineno, word))
                if isinstance(node, (ast.FunctionDef, ast.ClassDef)):
                    word = node.name
                if word is None:
                    continue
                place = (name, node.lineno, word)
                self.assertNotIn(word, BARRED | BARRED_NAMES, place)
                if word not in SPECIAL:
                    self.assertRegex(word, r"^(_|_?[A-Za-z][A-Za-z0-9_]*)$", place)
                    self.assertNotIn(word, dir(builtins), place)
                if isinstance(node, ast.Name) and word == "_":
                    continue
            for node in ast.walk(tree):
                if isinstance(node, ast.Name) and isinstance(node.ctx, ast.Load):
                    self.assertNotEqual(node.id, "_", (name, node.lineno))

    def test_attributes(self):
        stored = set()
        methods = {}
        for name, tree, _ in self.each():
            for node in ast.walk(tree):
                if isinstance(node, ast.Attribute) and isinstance(node.ctx, ast.Store):
                    self.assertNotIn(node.attr, NO_ATTRIBUTES | BARRED, (name, node.lineno))
                    self.assertIsInstance(node.value, ast.Name, (name, node.lineno))
                    stored.add(node.attr)
                if isinstance(node, ast.ClassDef):
                    own = [item.name for item in node.body if isinstance(item, ast.FunctionDef)]
                    self.assertEqual(len(own), len(set(own)))
                    attributes = {item.attr for item in ast.walk(node)
                                  if isinstance(item, ast.Attribute) and isinstance(item.ctx, ast.Store)}
                    self.assertEqual(attributes & set(own), set(), (name, node.name))
                    for word in own:
                        methods.setdefault(word, []).append(node.name)
        mixed = stored & set(methods)
        # Region.most is asked for by the interface, and so is the attribute of TooMany.
        self.assertLessEqual(mixed, {"most"})
        own = own_methods()
        for name, tree, _ in self.each():
            parents = parents_of(tree)
            for node in ast.walk(tree):
                if not isinstance(node, ast.Attribute):
                    continue
                parent = parents[node]
                if isinstance(parent, ast.Call) and parent.func is node:
                    self.assertTrue(node.attr in METHODS or node.attr in own, (name, node.lineno, node.attr))
                else:
                    self.assertIn(node.attr, stored, (name, node.lineno, node.attr))

    def test_builtins(self):
        for name, tree, _ in self.each():
            bound = {alias.name for node in tree.body if isinstance(node, ast.ImportFrom) for alias in node.names}
            for node in ast.walk(tree):
                if isinstance(node, (ast.FunctionDef, ast.ClassDef)):
                    bound.add(node.name)
                if isinstance(node, ast.arg):
                    bound.add(node.arg)
                if isinstance(node, ast.Name) and isinstance(node.ctx, ast.Store):
                    bound.add(node.id)
            parents = parents_of(tree)
            for node in ast.walk(tree):
                if isinstance(node, ast.Name) and isinstance(node.ctx, ast.Load) and node.id not in bound:
                    self.assertIn(node.id, BUILTINS, (name, node.lineno))
                    parent = parents[node]
                    called = isinstance(parent, ast.Call) and parent.func is node
                    checked = isinstance(parent, (ast.Tuple, ast.Call, ast.ClassDef))
                    checked = checked or isinstance(parent, ast.keyword) and (parent.arg, node.id) == ("key", "len")
                    self.assertTrue(called or checked, (name, node.lineno, node.id))
                if isinstance(node, ast.Call) and isinstance(node.func, ast.Name) and node.func.id in BUILTINS:
                    for word in node.keywords:
                        self.assertIn((node.func.id, word.arg), {
                            ("sorted", "key"), ("sorted", "reverse"), ("min", "key"), ("max", "key"),
                            ("min", "default"), ("max", "default"), ("sum", "start"), ("enumerate", "start")})

    def test_iterated_at_once(self):
        for name, tree, _ in self.each():
            parents = parents_of(tree)
            for node in ast.walk(tree):
                if not isinstance(node, ast.Call):
                    continue
                word = node.func.id if isinstance(node.func, ast.Name) else None
                view = isinstance(node.func, ast.Attribute) and node.func.attr in ("items", "keys", "values")
                place = (name, node.lineno)
                if word in ONCE or view:
                    parent = parents[node]
                    if isinstance(parent, (ast.For, ast.comprehension)) and parent.iter is node:
                        continue
                    self.assertIsInstance(parent, ast.Call, place)
                    self.assertIsInstance(parent.func, ast.Name, place)
                    self.assertIn(parent.func.id, TAKERS, place)
                if word == "set":
                    parent = parents[node]
                    self.assertTrue(isinstance(parent, ast.Call) and isinstance(parent.func, ast.Name)
                                    and parent.func.id in ("sorted", "len") and not parent.keywords, place)

    def test_loops_do_not_change_what_they_go_over(self):
        for name, tree, _ in self.each():
            for node in ast.walk(tree):
                if not isinstance(node, ast.For):
                    continue
                over = {ast.dump(part) for part in ast.walk(node.iter) if isinstance(part, (ast.Name, ast.Attribute))}
                for inner in node.body:
                    for part in ast.walk(inner):
                        if isinstance(part, ast.Call) and isinstance(part.func, ast.Attribute):
                            if part.func.attr in CHANGES:
                                self.assertNotIn(ast.dump(part.func.value), over, (name, part.lineno))
                        if isinstance(part, ast.Subscript) and isinstance(part.ctx, ast.Store):
                            loaded = ast.dump(part.value)
                            self.assertNotIn(loaded, over, (name, part.lineno))

    def test_values(self):
        for name, tree, _ in self.each():
            docs = docstrings_of(tree)
            for node in ast.walk(tree):
                if isinstance(node, ast.Constant):
                    self.assertNotIsInstance(node.value, (float, complex, bytes), (name, node.lineno))
                    if isinstance(node.value, str):
                        self.assertNotIn("%", node.value, (name, node.lineno))
                        self.assertFalse(node.value.endswith(("._", ".__")))
                        if node not in docs:
                            self.assertEqual(BARRED_WORDS & set(re.findall(r"\w+", node.value)), set())
                if isinstance(node, ast.Compare):
                    for sign, right in zip(node.ops, node.comparators):
                        if isinstance(sign, (ast.Is, ast.IsNot)):
                            self.assertIsInstance(right, ast.Constant, (name, node.lineno))
                            self.assertIn(right.value, (None, True, False))
                if isinstance(node, ast.JoinedStr):
                    for part in node.values:
                        if isinstance(part, ast.FormattedValue):
                            self.assertIsNone(part.format_spec)
                            for inner in ast.walk(part.value):
                                self.assertFalse(isinstance(inner, ast.Constant) and isinstance(inner.value, str))

    def test_no_escapes(self):
        for name, _, text in self.each():
            for found in re.findall(r"\\(.)", text):
                self.assertIn(found, "nt\\\"'", name)

    def test_barred_words(self):
        for name, tree, _ in self.each():
            for node in ast.walk(tree):
                words = []
                if isinstance(node, ast.Name):
                    words = [node.id]
                if isinstance(node, ast.Attribute):
                    words = [node.attr]
                if isinstance(node, ast.keyword):
                    words = [node.arg]
                for word in words:
                    self.assertNotIn(word, BARRED | BARRED_WORDS, (name, node.lineno))

    def test_classes(self):
        for name, tree, _ in self.each():
            for node in ast.walk(tree):
                if not isinstance(node, ast.ClassDef):
                    continue
                self.assertEqual(node.decorator_list, [])
                for item in node.body:
                    self.assertIsInstance(item, (ast.FunctionDef, ast.Expr), (name, node.name))
                    if isinstance(item, ast.FunctionDef) and item.name.startswith("__"):
                        self.assertIn(item.name, SPECIAL, (name, node.name))
                self.assertLessEqual(len(node.bases), 1)

    def test_operators_change_only_what_they_made(self):
        functions = {}
        methods = {}
        origins = {}
        for name, tree, _ in self.each():
            for node in tree.body:
                if isinstance(node, ast.FunctionDef):
                    functions[(name, node.name)] = node
                if isinstance(node, ast.ImportFrom):
                    for alias in node.names:
                        origins[(name, alias.name)] = node.module.split(".")[-1] + ".py"
                if isinstance(node, ast.ClassDef):
                    for item in node.body:
                        if isinstance(item, ast.FunctionDef):
                            methods.setdefault(item.name, []).append((name, item))
        todo = [pair for word in SPECIAL if word != "__init__" for pair in methods.get(word, [])]
        todo += [pair for pair in methods["__init__"] if pair[0] == "regions.py"]
        seen = set()
        while todo:
            name, node = todo.pop()
            if (name, node) in seen:
                continue
            seen.add((name, node))
            if node.name != "__init__":
                self.changes_own_only(name, node)
            for part in ast.walk(node):
                if isinstance(part, ast.Call) and isinstance(part.func, ast.Name):
                    key = (origins.get((name, part.func.id), name), part.func.id)
                    todo += [(key[0], functions[key])] if key in functions else []
                if isinstance(part, ast.Call) and isinstance(part.func, ast.Attribute):
                    todo += methods.get(part.func.attr, [])
        self.assertIn("cut", [node.name for _, node in seen])

    def changes_own_only(self, name, node):
        fresh = {}
        for part in ast.walk(node):
            if isinstance(part, ast.Assign):
                for target in part.targets:
                    if isinstance(target, ast.Name):
                        fresh.setdefault(target.id, []).append(part.value)
        for part in ast.walk(node):
            changed = None
            if isinstance(part, ast.Call) and isinstance(part.func, ast.Attribute) and part.func.attr in CHANGES:
                changed = part.func.value
            if isinstance(part, ast.Subscript) and isinstance(part.ctx, ast.Store):
                changed = part.value
            if isinstance(part, ast.Attribute) and isinstance(part.ctx, ast.Store):
                self.fail((name, node.name, part.lineno))
            if changed is not None:
                self.assertIsInstance(changed, ast.Name, (name, node.name, part.lineno))
                self.assertIn(changed.id, fresh, (name, node.name, part.lineno))
                for made in fresh[changed.id]:
                    plain = isinstance(made, (ast.List, ast.Dict, ast.ListComp, ast.DictComp))
                    self.assertTrue(plain, (name, node.name, part.lineno))


if __name__ == "__main__":
    unittest.main()
