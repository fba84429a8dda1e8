"""Those rules of the language that are easy to look up in the files of the package."""

import ast
import builtins
import pathlib
import unittest

PACKAGE = pathlib.Path(__file__).resolve().parent.parent / "wordworth"
LIBRARY = {
    "heapq": {"heapify", "heappop", "heappush", "heappushpop", "heapreplace"},
    "math": {"comb", "factorial", "gcd", "isqrt", "lcm", "perm"},
    "itertools": {
        "accumulate", "chain", "combinations", "islice", "pairwise", "permutations", "product", "zip_longest",
    },
    "collections": {"defaultdict", "deque"},
}
BUILTINS = {
    "len", "range", "enumerate", "zip", "min", "max", "sum", "abs", "sorted", "reversed", "int", "str", "bool",
    "list", "tuple", "dict", "isinstance", "ord", "repr", "any", "all", "divmod", "property", "ValueError",
}
METHODS = set(
    "append clear copy count endswith extend find get index insert isalnum isalpha isdigit islower isspace isupper "
    "items join keys ljust lower lstrip partition pop remove replace reverse rfind rjust rpartition rsplit rstrip "
    "setdefault split splitlines startswith strip update upper values zfill bit_length".split()
)
BARRED = {
    "type", "typing", "enum", "mro", "elements", "open", "input", "law", "register", "eval", "exec", "compile", "dir",
    "vars", "globals", "locals", "id", "help", "exit", "quit", "os", "sys", "gc", "namedtuple", "dataclass",
}


class LanguageTest(unittest.TestCase):
    def files(self):
        return [(path, path.read_text(encoding="utf-8")) for path in sorted(PACKAGE.iterdir())]

    def nodes(self, kinds):
        return [node for _, text in self.files() for node in ast.walk(ast.parse(text)) if isinstance(node, kinds)]

    def test_the_folder_holds_plain_python_files_alone(self):
        for path, _ in self.files():
            self.assertEqual(path.suffix, ".py", path)
            self.assertTrue(path.stem.isidentifier() and path.stem.islower(), path)
        self.assertTrue((PACKAGE / "__init__.py").is_file())

    def test_characters_and_sizes(self):
        for path, text in self.files():
            self.assertTrue(all(sign == "\n" or " " <= sign <= "~" for sign in text), path)
            lines = text.splitlines()
            self.assertLessEqual(len(lines), 399, path)
            self.assertLessEqual(max(map(len, lines)), 120, path)
        for node in self.nodes(ast.FunctionDef):
            self.assertLessEqual(node.end_lineno - node.lineno + 1, 40, node.name)

    def test_imports(self):
        for node in self.nodes((ast.Import, ast.ImportFrom)):
            self.assertIsInstance(node, ast.ImportFrom)
            self.assertEqual(node.level, 0)
            for name in node.names:
                self.assertIsNone(name.asname)
                if not node.module.startswith("wordworth."):
                    self.assertIn(name.name, LIBRARY[node.module])

    def test_no_quotient_and_no_float(self):
        for node in self.nodes((ast.Div, ast.Constant)):
            self.assertIsInstance(node, ast.Constant)
            self.assertNotIsInstance(node.value, (float, complex))

    def test_no_name_of_a_builtin_gets_another_meaning(self):
        for node in self.nodes((ast.Name, ast.arg, ast.FunctionDef, ast.ClassDef)):
            if isinstance(node, ast.Name):
                name = node.id if isinstance(node.ctx, ast.Store) else ""
            else:
                name = node.arg if isinstance(node, ast.arg) else node.name
            if not name.startswith("__"):
                self.assertFalse(hasattr(builtins, name), name)

    def test_builtins_are_those_that_are_allowed(self):
        for node in self.nodes(ast.Name):
            if hasattr(builtins, node.id):
                self.assertIn(node.id, BUILTINS)

    def test_barred_names(self):
        for node in self.nodes((ast.Name, ast.arg, ast.FunctionDef, ast.ClassDef, ast.Attribute, ast.alias)):
            for name in ("id", "arg", "name", "attr"):
                self.assertNotIn(getattr(node, name, ""), BARRED)

    def test_methods_that_are_called_are_own_ones_or_allowed(self):
        own = {node.name for node in self.nodes(ast.FunctionDef)}
        for node in self.nodes(ast.Call):
            if isinstance(node.func, ast.Attribute):
                self.assertIn(node.func.attr, own | METHODS)

    def test_behind_a_star_stands_a_name(self):
        for node in self.nodes(ast.Starred):
            self.assertIsInstance(node.value, (ast.Name, ast.Attribute))
        for node in self.nodes(ast.keyword):
            self.assertIsNotNone(node.arg)

    def test_the_name_of_one_underscore_is_never_read(self):
        for node in self.nodes(ast.Name):
            if node.id == "_":
                self.assertIsInstance(node.ctx, ast.Store)

    def test_statements_and_expressions_that_are_not_used(self):
        barred = (
            ast.GeneratorExp, ast.AsyncFunctionDef, ast.Global, ast.Try, ast.With, ast.Yield, ast.AnnAssign,
            ast.Pow, ast.MatMult, ast.JoinedStr,
        )
        for path, text in self.files():
            for node in ast.walk(ast.parse(text)):
                # The text of a number is the one f-string.
                if not (isinstance(node, ast.JoinedStr) and path.stem == "ratios"):
                    self.assertNotIsInstance(node, barred, path)

    def test_lambdas_with_the_same_parameters_stand_on_lines_of_their_own(self):
        for path, text in self.files():
            places = [
                (node.lineno, tuple(one.arg for one in node.args.args))
                for node in ast.walk(ast.parse(text)) if isinstance(node, ast.Lambda)
            ]
            self.assertEqual(len(places), len(set(places)), path)

    def test_no_local_name_is_that_of_an_import_or_a_class(self):
        for path, text in self.files():
            tree = ast.parse(text)
            known = {name.name for node in ast.walk(tree) if isinstance(node, ast.ImportFrom) for name in node.names}
            known |= {node.name for node in ast.walk(tree) if isinstance(node, ast.ClassDef)}
            for node in ast.walk(tree):
                if isinstance(node, ast.Name) and isinstance(node.ctx, ast.Store):
                    self.assertNotIn(node.id, known, path)
                if isinstance(node, ast.arg):
                    self.assertNotIn(node.arg, known, path)


if __name__ == "__main__":
    unittest.main()
