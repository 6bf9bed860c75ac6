"""Point 2 for the package as a whole, its interface, and the rules of the language that can be counted."""

import ast
import builtins
import inspect
import pathlib
import unittest
import warnings

import treesays
from treesays import (
    atoms, counting, deciding, documents, errors, expressions, formulas, judge, machines, making, meaning, papers,
    plain, questions, readback, reading, relabelings, schemas, shapes,
)

FOLDER = pathlib.Path(treesays.__file__).parent
FILES = sorted(FOLDER.glob("**/*.py"))

INTERFACE = {
    shapes: {
        "check_kind": ["kind"], "is_shape": ["kind", "value"], "size": ["shape"], "paths": ["shape"],
        "part": ["shape", "path"], "with_part": ["shape", "path", "new"], "write_shape": ["shape"],
        "read_shape": ["kind", "text"], "all_shapes": ["kind", "count"],
    },
    machines: {
        "is_machine": ["value"], "signs": ["kind", "tracks"], "state_of": ["machine", "marked"],
        "accepts": ["machine", "marked"], "mark": ["shape", "sets"], "least": ["machine"], "denied": ["machine"],
        "joined": ["first", "second", "both"], "hidden": ["machine", "track"], "spread": ["machine", "track"],
    },
    formulas: {
        "free_variables": ["formula"], "check_formula": ["kind", "formula"], "check_sentence": ["kind", "formula"],
        "depth": ["formula"],
    },
    reading: {"read_formula": ["text"], "write_formula": ["formula"]},
    meaning: {"holds": ["formula", "shape", "values"]},
    atoms: {"atom_machine": ["kind", "formula"]},
    making: {"core": ["formula"], "machine_of": ["kind", "formula"]},
    papers: {"paper": ["kind", "formula"]},
    judge: {"judge": ["kind", "formula", "given"]},
    deciding: {
        "least_model": ["kind", "sentence"], "is_always": ["kind", "sentence"],
        "least_parting": ["kind", "first", "second"], "equal": ["kind", "first", "second"],
    },
    counting: {
        "counts": ["kind", "sentence", "size"], "recurrence": ["kind", "sentence"], "keeps": ["machine", "numbers"],
    },
    questions: {
        "answers": ["kind", "question", "shape"], "failure": ["kind", "formula"],
        "image": ["kind", "formula", "shape", "path"],
    },
    readback: {"sentence_of": ["machine"]},
    documents: {"Document": ["labels"]},
    expressions: {
        "check_expression": ["kind", "expression"], "tells": ["expression", "word"],
        "expression_machine": ["kind", "expression"], "expression_of": ["machine"],
    },
    schemas: {
        "keeps_schema": ["labels", "schema", "shape"], "schema_machine": ["labels", "schema"],
        "least_kept": ["labels", "schema"], "least_stray": ["labels", "first", "second"],
        "least_unlike": ["labels", "schema", "sentence"], "tree_of_rows": ["rows"], "rows_of_tree": ["shape"],
    },
    relabelings: {
        "relabeled": ["kind", "rules", "shape"], "before": ["kind", "rules", "formula"],
        "together": ["kind", "first", "second"],
    },
    plain: {"plain": ["formula"], "is_plain": ["formula"]},
}
METHODS = {
    "insert": ["place", "label"], "remove": ["place"], "relabel": ["place", "label"], "move": ["place", "goal"],
    "label": ["place"], "rows": [], "tree": [], "stand": ["name", "formula"], "ask": ["name"], "looked": [],
}
ERRORS = ["SayError", "InvalidKind", "InvalidShape", "InvalidSentence", "TooLarge", "NoSuchElement", "NoFunction",
          "UnknownQuestion", "SyntaxProblem"]
LIBRARY = {
    "heapq": {"heappush", "heappop", "heapify", "heapreplace", "heappushpop"},
    "math": {"gcd", "lcm", "isqrt", "comb", "perm", "factorial"},
    "itertools": {"product", "combinations", "permutations", "chain", "accumulate", "pairwise", "islice",
                  "zip_longest"},
    "collections": {"defaultdict", "deque"},
}
BUILTINS = """
    len range enumerate zip min max sum abs sorted reversed int str bool list tuple dict set isinstance ord repr
    any all divmod pow getattr hasattr setattr iter next map super type print
    Exception ValueError TypeError KeyError IndexError LookupError ZeroDivisionError ArithmeticError OverflowError
    RuntimeError NotImplementedError AttributeError StopIteration NotImplemented
""".split()


def trees():
    return [(path, ast.parse(path.read_text("utf-8"))) for path in FILES]


def nodes(*classes):
    for path, tree in trees():
        for node in ast.walk(tree):
            if isinstance(node, classes):
                yield f"{path.name}:{node.lineno}", node


class InterfaceTest(unittest.TestCase):
    def defined_in(self, module):
        tree = ast.parse(pathlib.Path(module.__file__).read_text("utf-8"))
        return [node.name for node in tree.body if isinstance(node, (ast.FunctionDef, ast.ClassDef))]

    def test_functions_are_there_with_their_arguments(self):
        for module, functions in INTERFACE.items():
            for name, arguments in functions.items():
                with self.subTest(name):
                    self.assertIn(name, self.defined_in(module))
                    self.assertEqual(list(inspect.signature(getattr(module, name)).parameters), arguments)

    def test_methods_are_defined_in_the_class_itself(self):
        for name, arguments in METHODS.items():
            with self.subTest(name):
                self.assertIn(name, vars(documents.Document))
                self.assertEqual(list(inspect.signature(vars(documents.Document)[name]).parameters)[1:], arguments)

    def test_errors_are_defined_in_their_file(self):
        self.assertEqual(sorted(self.defined_in(errors)), sorted(ERRORS))


class MeansTest(unittest.TestCase):
    """No clock, no random numbers, no floating-point numbers and no files."""

    def test_imports(self):
        for place, node in nodes(ast.Import):
            self.fail(place)
        for place, node in nodes(ast.ImportFrom):
            names = {alias.name for alias in node.names}
            with self.subTest(place):
                self.assertEqual(node.level, 0)
                if node.module.split(".")[0] != "treesays":
                    self.assertLessEqual(names, LIBRARY.get(node.module, set()))
                self.assertTrue(all(alias.asname is None for alias in node.names))

    def test_no_floating_point_numbers(self):
        for place, node in nodes(ast.Constant):
            self.assertNotIsInstance(node.value, (float, complex), place)
        for place, node in nodes(ast.Div):
            self.fail(place)

    def test_no_other_builtin_is_used(self):
        for place, node in nodes(ast.Name):
            if hasattr(builtins, node.id):
                self.assertIn(node.id, BUILTINS, place)

    def test_no_state_at_module_level(self):
        for path, tree in trees():
            for node in tree.body:
                with self.subTest(f"{path.name}:{node.lineno}"):
                    if isinstance(node, ast.Assign):
                        ast.literal_eval(node.value)
                    elif isinstance(node, ast.Expr):
                        self.assertIsInstance(node.value.value, str)
                    else:
                        self.assertIsInstance(node, (ast.ImportFrom, ast.FunctionDef, ast.ClassDef))
        self.assertEqual(list(nodes(ast.Global)), [])

    def test_no_list_or_dict_is_a_default_value(self):
        for place, node in nodes(ast.FunctionDef, ast.Lambda):
            for value in node.args.defaults + [value for value in node.args.kw_defaults if value]:
                self.assertNotIsInstance(value, (ast.List, ast.Dict, ast.Call), place)


class LanguageTest(unittest.TestCase):
    def test_the_folder_holds_python_files_only(self):
        for path in FOLDER.rglob("*"):
            if "__pycache__" not in path.parts:
                self.assertEqual(path.suffix, ".py", path)
        self.assertIn(FOLDER / "__init__.py", FILES)

    def test_sizes(self):
        for path in FILES:
            text = path.read_bytes()
            self.assertTrue(all(sign == 10 or 32 <= sign < 127 for sign in text), path)
            lines = text.decode("ascii").splitlines()
            self.assertLessEqual(len(lines), 399, path)
            self.assertLessEqual(max(map(len, lines)), 120, path)
        for place, node in nodes(ast.FunctionDef):
            self.assertLessEqual(node.end_lineno - node.lineno + 1, 40, place)

    def test_python_gives_no_warning(self):
        with warnings.catch_warnings():
            warnings.simplefilter("error")
            for path in FILES:
                compile(path.read_text("utf-8"), str(path), "exec")

    def test_no_recursion_goes_through_a_shape(self):
        """A word of many letters is read with few calls, whatever is done with it."""
        shape = ()
        for _ in range(2000):
            shape = ("a", shape)
        counter = ((1, ("a",)), 0, ((1, 2, 0),), (True, False, False))
        self.assertTrue(shapes.is_shape((1, ("a",)), shape))
        self.assertEqual(shapes.size(shape), 2000)
        self.assertEqual(shapes.size(shapes.with_part(shape, (0,) * 1500, ())), 1500)
        self.assertEqual(shapes.size(shapes.read_shape((1, ("a",)), shapes.write_shape(shape))), 2000)
        self.assertEqual(machines.state_of(counter, machines.mark(shape, [])), 2000 % 3)


if __name__ == "__main__":
    unittest.main()
