"""Checks that the files of the package keep to the subset of Python, as far as their code alone shows it."""

import ast
import builtins
import pathlib
import unittest

FOLDER = pathlib.Path(__file__).parent.parent / "samerun"
FILES = sorted(FOLDER.glob("*.py"))

LIBRARY = ["collections", "heapq", "itertools", "math"]
BUILTINS = [
    "len", "range", "enumerate", "zip", "min", "max", "sum", "abs", "sorted", "reversed", "int", "str", "bool", "bytes",
    "list", "tuple", "dict", "set", "frozenset", "isinstance", "ord", "repr", "any", "all", "divmod", "pow", "getattr",
    "hasattr", "setattr", "iter", "next", "map", "property", "staticmethod", "classmethod", "super", "Exception",
    "ValueError", "TypeError", "KeyError", "IndexError", "LookupError", "ZeroDivisionError", "ArithmeticError",
    "OverflowError", "RuntimeError", "NotImplementedError", "AttributeError", "StopIteration", "NotImplemented",
]
METHODS = [
    "__init__", "__eq__", "__repr__", "__str__", "__len__", "__enter__", "__exit__", "__call__", "__iter__",
    "__ne__", "__lt__", "__le__", "__gt__", "__ge__", "__bool__", "__contains__", "__class__",
]
BARRED_NAMES = ["mro", "elements", "open", "input", "law", "version_info", "with_traceback", "add_note"]
BARRED_NODES = (ast.AsyncFunctionDef, ast.AsyncFor, ast.AsyncWith, ast.Await, ast.Div, ast.Import, ast.TryStar)
DECORATORS = ["property", "staticmethod", "classmethod"]


def trees():
    """Return the pairs of a file and its syntax tree."""
    return [(path.name, ast.parse(path.read_text("ascii"))) for path in FILES]


def nodes(*classes):
    """Return the pairs of a file's name and a node of these classes."""
    return [(name, node) for name, tree in trees() for node in ast.walk(tree) if isinstance(node, classes)]


class Language(unittest.TestCase):
    def test_the_folder_holds_only_plain_files(self):
        others = [path.name for path in FOLDER.iterdir() if path.suffix != ".py" and path.name != "__pycache__"]
        self.assertEqual(others, [])
        self.assertIn("__init__.py", [path.name for path in FILES])

    def test_characters_and_sizes(self):
        for path in FILES:
            text = path.read_text("ascii")
            self.assertTrue(all(" " <= sign <= "~" or sign == "\n" for sign in text), path.name)
            lines = text.split("\n")
            self.assertLessEqual(len(lines), 400, path.name)
            self.assertLessEqual(max(map(len, lines)), 120, path.name)

    def test_functions_are_short(self):
        for name, node in nodes(ast.FunctionDef):
            self.assertLessEqual(node.end_lineno - node.lineno + 1, 40, (name, node.name))

    def test_imports_come_from_the_defining_file(self):
        for name, node in nodes(ast.ImportFrom):
            if node.module in LIBRARY:
                continue
            self.assertEqual((node.level, node.module.split(".")[0]), (0, "samerun"), name)
            source = ast.parse((FOLDER / (node.module.split(".")[1] + ".py")).read_text("ascii"))
            bound = [each.name for each in source.body if isinstance(each, (ast.FunctionDef, ast.ClassDef))]
            bound += [target.id for each in source.body if isinstance(each, ast.Assign) for target in each.targets]
            for alias in node.names:
                self.assertIn(alias.name, bound, name)
                self.assertIsNone(alias.asname, name)

    def test_imported_names_are_used_and_not_bound_again(self):
        for name, tree in trees():
            imported = [alias.name for node in tree.body if isinstance(node, ast.ImportFrom) for alias in node.names]
            names = [node for node in ast.walk(tree) if isinstance(node, ast.Name)]
            for each in imported:
                self.assertIn(each, [node.id for node in names if isinstance(node.ctx, ast.Load)], name)
                self.assertNotIn(each, [node.id for node in names if isinstance(node.ctx, ast.Store)], name)

    def test_kinds_of_nodes(self):
        self.assertEqual([(name, node.lineno) for name, node in nodes(*BARRED_NODES)], [])
        self.assertEqual([name for name, node in nodes(ast.Constant) if isinstance(node.value, (float, complex))], [])

    def test_generator_expressions(self):
        # A class with __eq__ is in the package, so these builtins take a list.
        for name, node in nodes(ast.Call):
            if isinstance(node.func, ast.Name) and node.func.id in ["any", "all", "min", "max", "sum", "sorted"]:
                self.assertEqual([each for each in node.args if isinstance(each, ast.GeneratorExp)], [], name)

    def test_strings_hold_no_percent_sign(self):
        strings = [node.value for _, node in nodes(ast.Constant) if isinstance(node.value, str)]
        self.assertEqual([each for each in strings if "%" in each], [])

    def test_builtins(self):
        for name, node in nodes(ast.Name):
            # Python's prompt, and so the test of README.md, puts `_` among the builtins.
            if node.id != "_" and hasattr(builtins, node.id):
                self.assertIn(node.id, BUILTINS, (name, node.lineno))
                self.assertIsInstance(node.ctx, ast.Load)

    def test_names(self):
        found = [(name, node.id) for name, node in nodes(ast.Name)]
        found += [(name, node.arg) for name, node in nodes(ast.arg)]
        found += [(name, node.attr) for name, node in nodes(ast.Attribute)]
        found += [(name, node.name) for name, node in nodes(ast.FunctionDef, ast.ClassDef)]
        for name, word in found:
            self.assertNotIn(word, BARRED_NAMES, name)
            if word.startswith("__"):
                self.assertIn(word, METHODS, name)
        parameters = [(name, node.arg) for name, node in nodes(ast.arg)]
        self.assertEqual([each for each in parameters if hasattr(builtins, each[1])], [])

    def test_decorators(self):
        for name, node in nodes(ast.FunctionDef, ast.ClassDef):
            for decorator in node.decorator_list:
                text = ast.unparse(decorator)
                self.assertTrue(text in DECORATORS or text == node.name + ".setter", (name, text))

    def test_no_attribute_is_assigned_that_is_a_property_somewhere(self):
        properties = [node.name for _, node in nodes(ast.FunctionDef) if node.decorator_list]
        stored = [node for _, node in nodes(ast.Attribute) if isinstance(node.ctx, ast.Store)]
        self.assertEqual([node.attr for node in stored if node.attr in properties], [])

    def test_products_are_called_and_iterated_at_once(self):
        words = ["product", "combinations"]
        for name, tree in trees():
            walked = list(ast.walk(tree))
            calls = [node for node in walked if isinstance(node, ast.Call) and isinstance(node.func, ast.Name)]
            heads = [node.iter for node in walked if isinstance(node, (ast.For, ast.comprehension))]
            heads += [node.args[0] for node in calls if node.func.id in ["list", "tuple", "sorted"]]
            products = [node for node in calls if node.func.id in words]
            named = [node for node in walked if isinstance(node, ast.Name) and node.id in words]
            self.assertEqual(len(named), len(products), name)
            self.assertEqual([node.lineno for node in products if node not in heads], [], name)

    def test_listed_classes_and_functions_are_defined_in_their_files(self):
        listed = {
            "deciding": ["decide", "is_enough", "Always", "Sometimes"],
            "choosing": ["matter", "Matter", "enough_sets", "least_sets", "needed", "harms", "smallest", "Smallest"],
            "thinning": ["single_notes", "enough_choices", "needed_notes", "fewest", "parting", "Fewest"],
            "players": ["Player", "costs", "best_spacing"],
            "past": ["writer", "first_shown", "origin", "matters"], "sessions": ["Session"],
            "texts": ["scheme_text", "worlds_text", "notes_text", "read_scheme", "read_worlds", "read_notes"],
            "digits": ["encode", "decode"],
            "playing": ["shown", "notes", "size", "played", "compare", "Same", "Parts"],
            "machines": ["Machine", "machine_at"], "schemes": ["Scheme", "is_world"],
        }
        methods = {"Always": ["shows"], "Sometimes": ["shows"], "Matter": ["shows"], "Smallest": ["shows"],
                   "Fewest": ["shows"], "Same": ["shows"], "Parts": ["shows"], "Machine": ["step", "next", "copy"],
                   "Player": ["go", "at", "marks", "total", "state", "shown"],
                   "Session": ["step", "journal", "notes", "apart", "__len__", "machines", "undo", "branch", "trial",
                               "tried"],
                   "Scheme": ["threads", "handler", "kinds"]}
        files = dict(trees())
        for name, words in listed.items():
            defined = {node.name: node for node in files[name + ".py"].body
                       if isinstance(node, (ast.FunctionDef, ast.ClassDef))}
            for word in words:
                self.assertIn(word, defined)
                own = [node.name for node in defined[word].body if isinstance(node, ast.FunctionDef)]
                self.assertLessEqual(set(methods.get(word, [])), set(own), word)

    def test_exits_only_assign_attributes(self):
        exits = [node for _, node in nodes(ast.FunctionDef) if node.name == "__exit__"]
        self.assertEqual(len(exits), 1)
        for node in exits:
            rows = node.body[1:] if ast.get_docstring(node) else node.body
            self.assertEqual(ast.unparse(rows[0]), "session = self._session")
            for row in rows[1:]:
                self.assertRegex(ast.unparse(row), r"^session\.[a-z_]+ = self\.[a-z_]+$")

    def test_sets_stand_where_they_may(self):
        # Here a set stands only in `sorted`.
        for name, tree in trees():
            walked = list(ast.walk(tree))
            calls = [node for node in walked if isinstance(node, ast.Call) and isinstance(node.func, ast.Name)]
            allowed = [node.args[0] for node in calls if node.func.id == "sorted"]
            sets = [node for node in walked if isinstance(node, (ast.Set, ast.SetComp))]
            sets += [node for node in calls if node.func.id == "set"]
            self.assertEqual([node.lineno for node in sets if node not in allowed], [], name)

    def test_no_two_files_import_each_other(self):
        needs = {}
        for name, tree in trees():
            modules = [node.module for node in tree.body if isinstance(node, ast.ImportFrom)]
            needs[name[:-3]] = [each.split(".")[1] for each in modules if each.startswith("samerun.")]
        left = dict(needs)
        while left:
            free = [name for name, others in left.items() if not any(each in left for each in others)]
            self.assertNotEqual(free, [], sorted(left))
            for name in free:
                del left[name]

    def test_the_module_level(self):
        allowed = (ast.ImportFrom, ast.FunctionDef, ast.ClassDef, ast.Assign)
        for name, tree in trees():
            self.assertIsNotNone(ast.get_docstring(tree), name)
            for node in tree.body[1:]:
                self.assertIsInstance(node, allowed, name)


if __name__ == "__main__":
    unittest.main()
