"""The plainest of the rules that the files of the package are written by: sizes, characters, imports, names."""

import ast
import builtins
import pathlib
import re

from tests.helpers import Case

FOLDER = pathlib.Path(__file__).resolve().parent.parent / "bestunmoved"
BUILTINS = {"len", "range", "enumerate", "zip", "min", "max", "sum", "abs", "sorted", "reversed", "int", "str", "bool",
            "list", "tuple", "dict", "set", "isinstance", "repr", "any", "all", "divmod", "ValueError"}
LIBRARY = {("math", "gcd")}
WORDS = re.compile(r"(?<![A-Za-z0-9_])(type|typing|enum|Enum|Flag|Generic|Protocol|ABC|namedtuple|NamedTuple)"
                   r"(?![A-Za-z0-9_])")
METHODS = set("append clear copy count endswith extend find get index insert isalnum isalpha isdigit islower isspace "
              "isupper items join keys ljust lower lstrip partition pop remove replace reverse rfind rjust rpartition "
              "rsplit rstrip setdefault split splitlines startswith strip update upper values zfill bit_length add "
              "discard isascii".split())
BARRED = {"register", "mro", "elements", "open", "input", "law", "version_info", "attrgetter", "compile", "dir", "eval",
          "exec", "exit", "gc", "globals", "help", "id", "importlib", "locals", "os", "quit", "super", "type", "vars"}
STATEMENTS = (ast.Lambda, ast.GeneratorExp, ast.Try, ast.With, ast.Match, ast.Global, ast.Nonlocal, ast.Assert,
              ast.Delete, ast.AsyncFunctionDef, ast.AsyncFor, ast.Await, ast.YieldFrom, ast.NamedExpr, ast.JoinedStr,
              ast.Starred, ast.Div, ast.AnnAssign, ast.SetComp, ast.Set)


def trees():
    """Each file with its text and its tree."""
    for path in sorted(FOLDER.glob("*.py")):
        text = path.read_text(encoding="ascii")
        yield path, text, ast.parse(text)


def functions_of(tree):
    """All functions and methods of a file."""
    return [node for node in ast.walk(tree) if isinstance(node, ast.FunctionDef)]


def local_names(function):
    """The parameters and what a function assigns."""
    names = {one.arg for one in function.args.args}
    return names | {node.id for node in ast.walk(function) if isinstance(node, ast.Name)
                    and isinstance(node.ctx, ast.Store)}


def module_names(tree):
    """What a file binds at module level."""
    names = []
    for node in tree.body:
        if isinstance(node, (ast.FunctionDef, ast.ClassDef)):
            names.append(node.name)
        elif isinstance(node, ast.ImportFrom):
            names.extend(alias.name for alias in node.names)
        elif isinstance(node, ast.Assign):
            names.extend(target.id for target in node.targets)
    return names


class Rules(Case):

    def test_files(self):
        held = sorted(path.name for path in FOLDER.iterdir() if path.name != "__pycache__")
        self.assertTrue(all(re.fullmatch("[a-z_]+[.]py", name) for name in held), held)
        self.assertIn("__init__.py", held)
        self.assertLessEqual(len(held), 100)

    def test_sizes_and_characters(self):
        for path, text, tree in trees():
            lines = text.split("\n")
            self.assertLessEqual(len(lines), 399, path)
            self.assertLessEqual(max(map(len, lines)), 120, path)
            self.assertTrue(all(32 <= ord(c) <= 126 for line in lines for c in line), path)
            for function in functions_of(tree):
                self.assertLessEqual(function.end_lineno - function.lineno + 1, 40, (path, function.name))

    def test_module_level(self):
        for path, _, tree in trees():
            for at, node in enumerate(tree.body):
                doc = at == 0 and isinstance(node, ast.Expr) and isinstance(node.value, ast.Constant)
                self.assertTrue(doc or isinstance(node, (ast.ImportFrom, ast.FunctionDef, ast.ClassDef)), path)
            names = module_names(tree)
            self.assertEqual(len(names), len(set(names)), path)

    def test_imports(self):
        homes = {path.stem: module_names(tree) for path, _, tree in trees()}
        own = {path.stem: [node.name for node in tree.body if isinstance(node, (ast.FunctionDef, ast.ClassDef))]
               for path, _, tree in trees()}
        behind = {stem: set() for stem in homes}
        for path, text, tree in trees():
            for node in tree.body:
                if not isinstance(node, ast.ImportFrom):
                    continue
                self.assertEqual(node.level, 0)
                for alias in node.names:
                    self.assertIsNone(alias.asname)
                    if (node.module, alias.name) in LIBRARY:
                        continue
                    package, stem = node.module.split(".")
                    self.assertEqual(package, "bestunmoved")
                    self.assertIn(alias.name, own[stem], (path, alias.name))
                    behind[path.stem].add(stem)
                    self.assertGreater(len(re.findall(r"\b%s\b" % alias.name, text)), 1, (path, alias.name))
        ready = set()
        while len(ready) < len(behind):
            more = {stem for stem in behind if stem not in ready and behind[stem] <= ready}
            self.assertTrue(more, "files import from each other: %s" % sorted(set(behind) - ready))
            ready |= more

    def test_names(self):
        # A doctest leaves its last value there as _.
        everything = set(vars(builtins)) - {"_"}
        for path, _, tree in trees():
            bound = set(module_names(tree))
            for function in functions_of(tree):
                names = local_names(function)
                self.assertFalse(names & bound, (path, function.name))
                self.assertFalse(names & (everything | BARRED), (path, function.name))
            self.assertFalse(bound & (everything | BARRED), path)
            for node in ast.walk(tree):
                if isinstance(node, ast.Name) and isinstance(node.ctx, ast.Load) and node.id in everything:
                    self.assertIn(node.id, BUILTINS, (path, node.lineno))
                    self.assertNotEqual(node.id, "_")

    def test_statements(self):
        for path, text, tree in trees():
            self.assertFalse([(path, node.lineno) for node in ast.walk(tree) if isinstance(node, STATEMENTS)])
            self.assertFalse(WORDS.search(re.sub('""".*?"""|#.*', "", text, flags=re.S)), path)
            for node in ast.walk(tree):
                if isinstance(node, (ast.FunctionDef, ast.ClassDef)):
                    self.assertFalse(node.decorator_list, path)
                    self.assertTrue(ast.get_docstring(node) or node.name.startswith("__"), (path, node.name))
                if isinstance(node, ast.Compare) and isinstance(node.ops[0], (ast.Is, ast.IsNot)):
                    self.assertIn(repr(node.comparators[0].value), ("None", "True", "False"), (path, node.lineno))
                if isinstance(node, ast.BinOp) and isinstance(node.op, ast.Pow):
                    self.assertIsInstance(node.right, ast.Constant)
                    self.assertLessEqual(node.right.value, 64)
                if isinstance(node, ast.Constant) and isinstance(node.value, str):
                    self.assertNotIn("%", node.value, path)

    def test_methods_of_values(self):
        own = {function.name for _, _, tree in trees() for node in tree.body if isinstance(node, ast.ClassDef)
               for function in functions_of(node)}
        for path, _, tree in trees():
            for node in ast.walk(tree):
                if isinstance(node, ast.Call) and isinstance(node.func, ast.Attribute):
                    self.assertIn(node.func.attr, METHODS | own, (path, node.lineno))

    def test_sets_and_generators(self):
        for path, _, tree in trees():
            fine = [node.args[0] for node in ast.walk(tree) if isinstance(node, ast.Call)
                    and isinstance(node.func, ast.Name) and node.func.id in ("sorted", "len") and len(node.args) == 1]
            loops = [node.iter for node in ast.walk(tree) if isinstance(node, (ast.For, ast.comprehension))]
            for node in ast.walk(tree):
                if isinstance(node, ast.Call) and isinstance(node.func, ast.Name):
                    if node.func.id == "set":
                        self.assertIn(node, fine, (path, node.lineno))
                    if node.func.id == "all_rings":
                        self.assertIn(node, loops, (path, node.lineno))
