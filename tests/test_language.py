"""Rules of the language subset that can be seen in the code of the package, and the shape of the interface."""

import ast
import inspect
import unittest
from importlib import import_module
from pathlib import Path

PACKAGE = Path(__file__).resolve().parent.parent / "loadorloose"

BUILTINS = set(
    "len range enumerate zip min max sum abs sorted reversed int str bool bytes list tuple dict set frozenset isinstance"
    " ord repr any all divmod Exception ValueError TypeError KeyError IndexError LookupError ZeroDivisionError"
    " ArithmeticError OverflowError RuntimeError NotImplementedError NotImplemented super".split()
)
METHODS = set(
    "append clear copy count endswith extend find get index insert isalnum isalpha isdigit islower isspace isupper items"
    " join keys ljust lower lstrip partition pop remove replace reverse rfind rjust rpartition rsplit rstrip setdefault"
    " split splitlines startswith strip update upper values zfill bit_length add discard".split()
)
BARRED = set(
    "register mro elements open input law version_info with_traceback add_note eval exec compile globals locals vars"
    " type typing enum dataclass namedtuple".split()
)
LIBRARY = {"math": {"gcd", "lcm", "isqrt", "comb", "perm", "factorial"}, "itertools": {"product", "combinations"}}

INTERFACE = {
    "errors": {"LoadError": None, "BadText": ["line"], "NoSuchFrame": ["name"]},
    "numbers": {
        "number": ["n", "d"], "plus": ["a", "b"], "minus": ["a", "b"], "times": ["a", "b"], "over": ["a", "b"],
        "less": ["a", "b"], "sign": ["a"], "lowest": ["integers"], "brought": ["numbers"],
    },
    "rows": {"rank": ["rows"], "kernel": ["rows", "width"]},
    "programs": {"maximize": ["rows", "sides", "gains"], "shows": ["rows", "sides", "gains", "answer"]},
    "frames": {
        "growth": ["frame", "k", "motion"], "is_allowed": ["frame", "motion"], "resistance": ["frame", "motion"],
        "work": ["load", "motion"], "missing": ["frame", "load", "tensions"], "carries": ["frame", "load", "tensions"],
        "reactions": ["frame", "load", "tensions"],
    },
    "carrying": {"carry": ["frame", "load"]},
    "factors": {"greatest": ["frame", "load"]},
    "strengths": {"use": ["frame", "k", "motion"], "cheapest": ["frame", "costs", "loads"]},
    "holding": {
        "is_rigid": ["points", "motion"], "is_proper": ["frame", "tensions"], "hold": ["frame"], "stiffen": ["frame"],
    },
    "judging": {
        "is_carry": ["frame", "load", "answer"], "is_greatest": ["frame", "load", "answer"],
        "is_cheapest": ["frame", "costs", "loads", "answer"], "is_hold": ["frame", "answer"],
        "is_stiffen": ["frame", "answer"],
    },
    "counting": {
        "are_independent": ["n", "pairs"], "chosen": ["net"], "count_rank": ["net"], "is_enough": ["net"],
    },
    "building": {"building": ["net"], "is_building": ["net", "steps"]},
    "covers": {"cover": ["net"], "cover_sum": ["sets"], "is_cover": ["net", "sets"]},
    "placing": {"growth_rank": ["points", "pairs"], "placed": ["net"]},
    "adding": {"spare": ["net"], "fewest": ["net", "offers"]},
    "grids": {name: ["r", "c", "braces"] for name in ("grid_frame", "grid_stiff", "grid_motion", "parted")},
    "faces": {name: ["points", "pairs"] for name in ("is_plane", "rounds", "outer")},
    "surfaces": {
        "surface": ["points", "pairs", "tensions"], "slopes": ["points", "pairs", "tensions"],
        "tensions_of": ["points", "pairs", "heights"],
    },
    "texts": {"write_frame": ["frame"], "read_frame": ["text"]},
    "yard": {"Yard": []},
}
YARD = {
    "put": ["name", "frame"], "frame": ["name"], "names": [], "add_joint": ["name", "point"],
    "add_member": ["name", "member"], "drop_member": ["name", "k"], "move": ["name", "joint", "point"],
    "pin": ["name", "joint"], "free": ["name", "joint"], "limit": ["name", "k", "pull", "push"],
    "carry": ["name", "load"], "greatest": ["name", "load"], "hold": ["name"], "stiffen": ["name"],
}


def sources():
    """The path, the text and the tree of each file of the package."""
    for path in sorted(PACKAGE.glob("*.py")):
        text = path.read_text(encoding="utf-8")
        yield path, text, ast.parse(text)


def nodes(kind):
    """The file name and the node of each node of a kind in the package."""
    for path, _, tree in sources():
        for node in ast.walk(tree):
            if isinstance(node, kind):
                yield path.name, node


class Files(unittest.TestCase):
    def test_package_holds_nothing_but_its_files(self):
        names = [path.name for path in PACKAGE.iterdir() if path.name != "__pycache__"]
        self.assertIn("__init__.py", names)
        for name in names:
            self.assertRegex(name, r"^[a-z_]+\.py$")

    def test_sizes_and_characters(self):
        for path, text, _ in sources():
            lines = text.split("\n")
            self.assertLess(len(lines), 400, path)
            self.assertTrue(all(len(line) <= 120 for line in lines), path)
            self.assertTrue(all(c == "\n" or " " <= c <= "~" for c in text), path)

    def test_functions_are_short(self):
        for path, node in nodes(ast.FunctionDef):
            self.assertLessEqual(node.end_lineno - node.lineno + 1, 40, (path, node.name))
            self.assertEqual(node.decorator_list, [], (path, node.name))

    def test_each_function_and_class_says_what_it_is(self):
        for path, node in nodes((ast.FunctionDef, ast.ClassDef)):
            if not node.name.startswith("__"):
                self.assertIsNotNone(ast.get_docstring(node), (path, node.name))


class Words(unittest.TestCase):
    def test_no_statements_or_values_outside_of_the_subset(self):
        barred = (ast.Global, ast.AsyncFunctionDef, ast.AsyncFor, ast.Await, ast.Div, ast.MatMult, ast.Set)
        for path, node in nodes(barred):
            self.fail((path, node.lineno, ast.dump(node)))
        for path, node in nodes(ast.Constant):
            self.assertNotIsInstance(node.value, (float, complex), path)
            if isinstance(node.value, str):
                self.assertNotIn("%", node.value, path)

    def test_exponents_are_literal(self):
        for path, node in nodes(ast.BinOp):
            if isinstance(node.op, ast.Pow):
                self.assertIsInstance(node.right, ast.Constant, path)

    def test_imports(self):
        for path, node in nodes((ast.Import, ast.ImportFrom)):
            self.assertIsInstance(node, ast.ImportFrom, path)
            for name in node.names:
                self.assertIsNone(name.asname, path)
                if node.module in LIBRARY:
                    self.assertIn(name.name, LIBRARY[node.module], path)
                else:
                    self.assertRegex(node.module, r"^loadorloose\.[a-z_]+$", path)
                    defined = vars(import_module(node.module))
                    self.assertIn(name.name, defined, path)
                    self.assertEqual(getattr(defined[name.name], "__module__", node.module), node.module, path)

    def test_names_that_are_called(self):
        for path, _, tree in sources():
            known = set(BUILTINS)
            for node in ast.walk(tree):
                if isinstance(node, (ast.FunctionDef, ast.ClassDef)):
                    known.add(node.name)
                elif isinstance(node, ast.alias):
                    known.add(node.name)
            for node in ast.walk(tree):
                if isinstance(node, ast.Call) and isinstance(node.func, ast.Name):
                    self.assertIn(node.func.id, known, path)

    def test_methods_that_are_called(self):
        own = {node.name for _, node in nodes(ast.FunctionDef)}
        for path, node in nodes(ast.Call):
            if isinstance(node.func, ast.Attribute):
                self.assertIn(node.func.attr, METHODS | own, path)

    def test_no_name_has_another_meaning(self):
        for path, _, tree in sources():
            imported = {node.name for node in ast.walk(tree) if isinstance(node, ast.alias)}
            classes = {node.name for node in ast.walk(tree) if isinstance(node, ast.ClassDef)}
            methods = {part for node in ast.walk(tree) if isinstance(node, ast.ClassDef) for part in node.body}
            taken = imported | classes | set(dir(__import__("builtins"))) | BARRED
            for node in ast.walk(tree):
                if isinstance(node, ast.Name) and isinstance(node.ctx, ast.Store):
                    self.assertNotIn(node.id, taken, path)
                elif isinstance(node, ast.arg):
                    self.assertNotIn(node.arg, taken, path)
                elif isinstance(node, ast.FunctionDef):
                    # A method may have the name of an import.
                    self.assertNotIn(node.name, BARRED if node in methods else imported | BARRED, path)

    def test_iterators_are_iterated_at_once(self):
        takers = set("list tuple dict sorted sum any all enumerate zip min max reversed product combinations".split())
        for path, _, tree in sources():
            allowed = set()
            for node in ast.walk(tree):
                if isinstance(node, (ast.For, ast.comprehension)):
                    allowed.add(node.iter)
                elif isinstance(node, ast.Call) and isinstance(node.func, ast.Name) and node.func.id in takers:
                    allowed.update(node.args)
            for node in ast.walk(tree):
                if isinstance(node, ast.Call) and isinstance(node.func, ast.Name):
                    if node.func.id in ("zip", "enumerate", "reversed", "range", "product", "combinations"):
                        self.assertIn(node, allowed, (path, node.lineno))

    def test_modules_hold_no_state(self):
        for path, _, tree in sources():
            for node in tree.body:
                if isinstance(node, ast.Assign):
                    # A plain value; this fails for any other one.
                    ast.literal_eval(node.value)
                else:
                    kinds = (ast.ImportFrom, ast.FunctionDef, ast.ClassDef, ast.Expr)
                    self.assertIsInstance(node, kinds, path)


class Interface(unittest.TestCase):
    def test_names_and_arguments(self):
        for module, names in INTERFACE.items():
            found = import_module(f"loadorloose.{module}")
            for name, arguments in names.items():
                thing = getattr(found, name)
                self.assertEqual(thing.__module__, found.__name__)
                if arguments is not None:
                    self.assertEqual(list(inspect.signature(thing).parameters), arguments, name)

    def test_methods_of_a_yard(self):
        own = vars(import_module("loadorloose.yard").Yard)
        for name, arguments in YARD.items():
            self.assertEqual(list(inspect.signature(own[name]).parameters)[1:], arguments, name)


if __name__ == "__main__":
    unittest.main()
