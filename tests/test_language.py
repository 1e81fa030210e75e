"""Those rules of shared/LANGUAGE.md, and of the interface, that can be read off the files of the package."""

import ast
import builtins
import pathlib
import unittest

import refundtrees

FOLDER = pathlib.Path(refundtrees.__file__).parent

BUILTINS = set("""
    len range enumerate zip min max sum abs sorted reversed int str bool bytes list tuple dict set frozenset
    isinstance ord repr any all divmod iter next map property staticmethod classmethod super
    Exception ValueError TypeError KeyError IndexError LookupError ZeroDivisionError ArithmeticError
    OverflowError RuntimeError NotImplementedError AttributeError StopIteration NotImplemented
""".split())

INTERFACE = {
    "errors": {
        "TreeError": [], "NoBook": [], "NoSkill": [], "NoBuild": [], "NoStep": [], "NoWay": [], "NoPlain": [],
        "NoNumber": [], "NoWish": [], "NoWorth": [], "NoSeen": [], "NoKind": [], "NothingBack": [], "NoNote": [],
    },
    "books": {
        "Book": """
            __init__ skills needs wants bars gives prices points reset names __getitem__ need_of price_of given_by
            wants_of __contains__ __len__ __iter__ listed __eq__ changed
        """.split(),
    },
    "builds": {
        "is_build": [], "build_of": [],
        "Build": """
            __init__ skills __or__ __and__ __sub__ __ror__ __rand__ __rsub__ __contains__ __len__ __iter__ listed
            within is_good __eq__
        """.split(),
    },
}

DEFINED = (ast.FunctionDef, ast.ClassDef)


def files():
    return [path for path in sorted(FOLDER.iterdir()) if path.name != "__pycache__"]


def trees():
    return {path.stem: ast.parse(path.read_text(encoding="utf-8")) for path in files()}


def walked(kinds):
    return [(name, node) for name, tree in trees().items() for node in ast.walk(tree) if isinstance(node, kinds)]


def imports_of(tree):
    return [node for node in ast.walk(tree) if isinstance(node, (ast.Import, ast.ImportFrom))]


def bound_names(tree):
    """The names that a file binds at module level, but for its imports."""
    names = [node.name for node in tree.body if isinstance(node, DEFINED)]
    return names + [target.id for node in tree.body if isinstance(node, ast.Assign) for target in node.targets]


class FilesTest(unittest.TestCase):
    def test_the_folder_holds_files_with_plain_names_alone(self):
        for path in files():
            self.assertTrue(path.is_file() and path.suffix == ".py", path)
            self.assertRegex(path.stem, "^[a-z_][a-z0-9_]*$")

    def test_sizes_and_signs(self):
        for path in files():
            lines = path.read_text(encoding="utf-8").split("\n")
            self.assertLess(len(lines) - 1, 400, path)
            for line in lines:
                self.assertLessEqual(len(line), 120, (path, line))
                self.assertTrue(all(" " <= sign <= "~" for sign in line), (path, line))

    def test_functions_are_small(self):
        for name, node in walked(ast.FunctionDef):
            self.assertLessEqual(node.end_lineno - node.lineno + 1, 40, (name, node.name))


class NamesTest(unittest.TestCase):
    def test_module_level_holds_definitions_and_plain_values_once(self):
        for name, tree in trees().items():
            allowed = (ast.ImportFrom, ast.Assign, *DEFINED)
            for node in tree.body[1:]:
                self.assertIsInstance(node, allowed, name)
            self.assertIsInstance(tree.body[0], ast.Expr, name)
            names = bound_names(tree) + [alias.name for node in imports_of(tree) for alias in node.names]
            self.assertEqual(len(names), len(set(names)), name)

    def test_imports_name_the_file_that_defines_the_name(self):
        for name, tree in trees().items():
            for node in imports_of(tree):
                self.assertIsInstance(node, ast.ImportFrom, name)
                package, _, file = node.module.partition(".")
                self.assertEqual((package, node.level), ("refundtrees", 0), name)
                for alias in node.names:
                    self.assertIn(alias.name, bound_names(trees()[file]), name)
                    self.assertIsNone(alias.asname, name)

    def test_no_two_files_import_from_each_other(self):
        wanted = {name: {node.module.partition(".")[2] for node in imports_of(tree)} for name, tree in trees().items()}
        while wanted:
            free = [name for name, others in wanted.items() if not others & set(wanted)]
            self.assertTrue(free, wanted)
            wanted = {name: others for name, others in wanted.items() if name not in free}

    def test_only_the_told_builtins_are_used_and_none_is_given_another_meaning(self):
        meant = set(dir(builtins))
        for name, node in walked(ast.Name):
            if isinstance(node.ctx, ast.Load):
                self.assertIn(node.id, BUILTINS if node.id in meant else [node.id], name)
            else:
                self.assertNotIn(node.id, meant, name)
        for name, node in walked(ast.arg):
            self.assertNotIn(node.arg, meant, name)

    def test_no_comprehension_stands_bare_in_any_all_and_sum(self):
        self.assertEqual(walked(ast.GeneratorExp), [])

    def test_only_properties_are_decorated(self):
        for name, node in walked(DEFINED):
            for decorator in node.decorator_list:
                self.assertEqual(ast.unparse(decorator), "property", (name, node.name))

    def test_strings_have_no_sign_of_a_format(self):
        for name, node in walked(ast.Constant):
            if isinstance(node.value, str):
                self.assertNotIn("%", node.value, name)

    def test_is_stands_beside_none_and_truths_alone(self):
        for name, node in walked(ast.Compare):
            if isinstance(node.ops[0], (ast.Is, ast.IsNot)):
                self.assertIn(ast.unparse(node.comparators[0]), ("None", "True", "False"), name)


class InterfaceTest(unittest.TestCase):
    def test_each_name_is_defined_in_the_file_that_lists_it(self):
        for file, names in INTERFACE.items():
            defined = {node.name: node for node in trees()[file].body if isinstance(node, DEFINED)}
            for name, methods in names.items():
                self.assertIn(name, defined)
                own = [node.name for node in defined[name].body if isinstance(node, ast.FunctionDef)]
                self.assertEqual([method for method in methods if method not in own], [], name)


if __name__ == "__main__":
    unittest.main()
