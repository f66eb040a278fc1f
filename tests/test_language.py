"""That the package keeps the rules of the language that a look at its code can show."""

import ast
import builtins
import os
import unittest

ROOT = os.path.join(os.path.dirname(os.path.dirname(os.path.abspath(__file__))), "shopwhole")
LIBRARY = {
    "heapq": {"heappush", "heappop", "heapify", "heapreplace", "heappushpop"},
    "math": {"gcd", "lcm", "isqrt", "comb", "perm", "factorial"},
    "itertools": {"product", "combinations", "permutations", "chain", "accumulate", "pairwise", "islice",
                  "zip_longest"},
    "collections": {"defaultdict"},
}
BUILTINS = set("""len range enumerate zip min max sum abs sorted reversed int str bool list tuple dict set isinstance
ord repr any all divmod pow map iter next super Exception ValueError TypeError KeyError IndexError LookupError
ZeroDivisionError""".split())
METHODS = set("""append clear copy count endswith extend find get index insert isalnum isalpha isdigit islower isspace
isupper items join keys ljust lower lstrip partition pop remove replace reverse rfind rjust rpartition rsplit rstrip
setdefault split splitlines startswith strip update upper values zfill bit_length add discard""".split())
BARRED_NAMES = set("""register mro elements open input law version_info with_traceback add_note attrgetter breakpoint
builtins compile copyright credits delattr dir eval exec exit gc getattr globals hasattr help id importlib license
locals methodcaller os quit setattr type vars sys""".split())
BARRED_WORDS = set("""typing enum Enum Flag Generic Protocol ABC namedtuple abstractmethod dataclass overload
contextmanager""".split())
BARRED_ATTRIBUTES = set("""items keys values pop update append clear extend insert remove reverse setdefault sort args
encode decode hex fromhex format format_map""".split())
VALUE_NAMES = {word for kind in (str, int, list, dict, set, bytes) for word in dir(kind) if not word.startswith("_")}
STATEMENTS = (ast.Assign, ast.AugAssign, ast.If, ast.While, ast.For, ast.Return, ast.Break, ast.Continue, ast.Pass,
              ast.Raise, ast.Assert, ast.Delete, ast.Try, ast.Expr, ast.FunctionDef, ast.ClassDef, ast.ImportFrom)
BARRED_NODES = (ast.Yield, ast.YieldFrom, ast.Await, ast.Global, ast.Nonlocal, ast.NamedExpr, ast.With, ast.Match,
                ast.AnnAssign, ast.Set, ast.SetComp, ast.GeneratorExp, ast.Div, ast.MatMult)


def package_files():
    return sorted(name for name in os.listdir(ROOT) if name != "__pycache__")


def source_of(name):
    with open(os.path.join(ROOT, name), encoding="utf-8") as file:
        return file.read()


def tree_of(name):
    return ast.parse(source_of(name))


def defined_in(tree):
    return {node.name for node in tree.body if isinstance(node, (ast.FunctionDef, ast.ClassDef))} | {
        target.id for node in tree.body if isinstance(node, ast.Assign) for target in node.targets}


def functions_of(tree):
    return [node for node in ast.walk(tree) if isinstance(node, ast.FunctionDef)]


def locals_of(function):
    names = {argument.arg for argument in function.args.args}
    for node in ast.walk(function):
        if isinstance(node, ast.Name) and isinstance(node.ctx, (ast.Store, ast.Del)):
            names.add(node.id)
        if isinstance(node, ast.ExceptHandler) and node.name:
            names.add(node.name)
        if isinstance(node, ast.Lambda):
            names.update(argument.arg for argument in node.args.args)
    return names


def imports_of(tree):
    return {alias.asname or alias.name: node.module
            for node in tree.body if isinstance(node, ast.ImportFrom) for alias in node.names}


class Language(unittest.TestCase):
    def test_files_are_short_and_plain(self):
        self.assertLessEqual(len(package_files()), 100)
        for name in package_files():
            self.assertRegex(name, r"^[a-z_][a-z0-9_]*\.py$")
            text = source_of(name)
            self.assertTrue(all(sign == "\n" or " " <= sign <= "~" for sign in text), name)
            self.assertLessEqual(len(text.split("\n")) - 1, 399, name)
            for line in text.split("\n"):
                self.assertLessEqual(len(line), 120, (name, line))

    def test_functions_are_short(self):
        for name in package_files():
            for function in functions_of(tree_of(name)):
                self.assertLessEqual(function.end_lineno - function.lineno + 1, 40, (name, function.name))
                self.assertIsNotNone(ast.get_docstring(function) or function.name == "__init__" or None,
                                     (name, function.name))

    def test_imports_name_what_their_files_define(self):
        reached = {}
        for name in package_files():
            tree = tree_of(name)
            found = imports_of(tree)
            used = {node.id for node in ast.walk(tree) if isinstance(node, ast.Name)}
            for word, module in found.items():
                self.assertIn(word, used, (name, "not used"))
                if module in LIBRARY:
                    self.assertIn(word, LIBRARY[module])
                else:
                    self.assertTrue(module.startswith("shopwhole."), (name, module))
                    self.assertIn(word, defined_in(tree_of(module.split(".")[1] + ".py")), (name, word))
            reached[name] = {module.split(".")[1] + ".py" for module in found.values() if module not in LIBRARY}
        for _ in reached:
            for name in reached:
                reached[name] = reached[name].union(*[reached[other] for other in reached[name]])
        for name in reached:
            self.assertNotIn(name, reached[name])

    def test_modules_hold_imports_values_functions_and_classes(self):
        for name in package_files():
            tree = tree_of(name)
            bound = [word for word in imports_of(tree)]
            for node in tree.body:
                self.assertIsInstance(node, (ast.Expr, ast.ImportFrom, ast.Assign, ast.FunctionDef, ast.ClassDef))
                if isinstance(node, (ast.FunctionDef, ast.ClassDef)):
                    bound.append(node.name)
                if isinstance(node, ast.Assign):
                    self.assertEqual(len(node.targets), 1)
                    bound.append(node.targets[0].id)
                    self.assertFalse(any(isinstance(k, (ast.Call, ast.BinOp)) for k in ast.walk(node.value)), name)
            self.assertEqual(len(bound), len(set(bound)), name)

    def test_names_are_free(self):
        for name in package_files():
            tree = tree_of(name)
            barred = set(imports_of(tree)) | {k.name for k in tree.body if isinstance(k, ast.ClassDef)}
            for function in functions_of(tree):
                names = locals_of(function)
                self.assertFalse(names & barred, (name, function.name))
                self.assertFalse(names & (set(dir(builtins)) - {"_"}), (name, function.name))
                self.assertNotIn(function.name, dir(builtins))
                self.assertFalse((names | {function.name}) & BARRED_NAMES, (name, function.name))

    def test_only_allowed_nodes(self):
        for name in package_files():
            for node in ast.walk(tree_of(name)):
                if isinstance(node, ast.stmt):
                    self.assertIsInstance(node, STATEMENTS, (name, node.lineno))
                self.assertNotIsInstance(node, BARRED_NODES, (name, getattr(node, "lineno", 0)))
                if isinstance(node, ast.Constant):
                    self.assertIsInstance(node.value, (int, str, type(None)), (name, node.lineno))
                    self.assertNotIn("%", str(node.value), (name, node.lineno))
                if isinstance(node, ast.Pow):
                    self.fail(name)
                if isinstance(node, (ast.FunctionDef, ast.ClassDef)):
                    self.assertEqual(node.decorator_list, [])
                if isinstance(node, ast.ExceptHandler):
                    self.assertIsNotNone(node.type, name)
                if isinstance(node, ast.Call):
                    for argument in node.args:
                        if isinstance(argument, ast.Starred):
                            self.assertIsInstance(argument.value, ast.Name, (name, node.lineno))

    def test_only_allowed_builtins_and_methods(self):
        attributes, methods = set(), set()
        for name in package_files():
            for node in ast.walk(tree_of(name)):
                if isinstance(node, ast.Attribute) and isinstance(node.ctx, ast.Store):
                    attributes.add(node.attr)
                if isinstance(node, ast.ClassDef):
                    methods.update(part.name for part in node.body if isinstance(part, ast.FunctionDef))
        self.assertFalse(attributes & methods)
        self.assertFalse(attributes & BARRED_ATTRIBUTES)
        self.assertFalse((attributes | methods) & VALUE_NAMES - {"count", "index", "add", "discard"})
        for name in package_files():
            tree = tree_of(name)
            known = defined_in(tree) | set(imports_of(tree))
            for function in functions_of(tree):
                inside = known | locals_of(function)
                for node in ast.walk(function):
                    if isinstance(node, ast.Name):
                        self.assertIn(node.id, inside | BUILTINS, (name, function.name))
                    if isinstance(node, ast.Attribute):
                        self.assertIn(node.attr, attributes | methods | METHODS | {"__init__"}, (name, function.name))

    def test_loops_leave_what_they_go_over(self):
        changing = {"append", "clear", "extend", "insert", "pop", "remove", "reverse", "setdefault", "update"}
        for name in package_files():
            for loop in ast.walk(tree_of(name)):
                if not isinstance(loop, ast.For):
                    continue
                over = {ast.dump(node) for node in ast.walk(loop.iter) if isinstance(node, ast.Name)}
                for node in ast.walk(loop):
                    if isinstance(node, ast.Call) and isinstance(node.func, ast.Attribute):
                        if node.func.attr in changing:
                            self.assertNotIn(ast.dump(node.func.value), over, (name, node.lineno))
                    if isinstance(node, ast.Subscript) and isinstance(node.ctx, ast.Store):
                        self.assertNotIn(ast.dump(node.value), over, (name, node.lineno))

    def test_barred_words_do_not_occur(self):
        for name in package_files():
            for node in ast.walk(tree_of(name)):
                if isinstance(node, ast.Name):
                    self.assertNotIn(node.id, BARRED_WORDS)
                if isinstance(node, ast.Constant) and isinstance(node.value, str):
                    self.assertFalse({"dataclass", "overload", "contextmanager"} & set(node.value.split()))

    def test_sets_are_only_sorted_measured_or_asked(self):
        for name in package_files():
            tree = tree_of(name)
            allowed = set()
            for node in ast.walk(tree):
                if isinstance(node, ast.Call) and isinstance(node.func, ast.Name) and node.func.id in ("sorted", "len"):
                    allowed.update(id(argument) for argument in node.args)
                if isinstance(node, ast.Compare):
                    allowed.update(id(part) for part in node.comparators)
            for node in ast.walk(tree):
                if isinstance(node, ast.Call) and isinstance(node.func, ast.Name) and node.func.id == "set":
                    self.assertIn(id(node), allowed, (name, node.lineno))

    def test_views_and_zips_are_gone_through_at_once(self):
        kinds = {"zip", "enumerate", "reversed", "range", "items", "keys", "values"}
        takers = {"list", "tuple", "dict", "sorted", "sum", "any", "all", "enumerate", "zip", "min", "max",
                  "combinations", "permutations", "product"}
        for name in package_files():
            tree = tree_of(name)
            allowed = set()
            for node in ast.walk(tree):
                if isinstance(node, (ast.For, ast.comprehension)):
                    allowed.add(id(node.iter))
                if isinstance(node, ast.Call) and isinstance(node.func, ast.Name) and node.func.id in takers:
                    allowed.update(id(argument) for argument in node.args[:1])
            for node in ast.walk(tree):
                if isinstance(node, ast.Call):
                    word = node.func.id if isinstance(node.func, ast.Name) else getattr(node.func, "attr", None)
                    if word in kinds:
                        self.assertIn(id(node), allowed, (name, node.lineno))


if __name__ == "__main__":
    unittest.main()
