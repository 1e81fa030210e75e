"""Those rules of shared/LANGUAGE.md, and of the interface, that can be read off the files of the package."""

import ast
import builtins
import functools
import pathlib
import unittest

import refundtrees

FOLDER = pathlib.Path(refundtrees.__file__).parent

BUILTINS = set("""
    len range enumerate zip min max sum abs sorted reversed int str bool bytes list tuple dict set frozenset
    isinstance ord repr any all divmod iter next map property staticmethod classmethod super
    Exception ValueError TypeError KeyError IndexError LookupError ZeroDivisionError ArithmeticError
    OverflowError RuntimeError NotImplementedError AttributeError StopIteration NotImplemented
""".split())

INTERFACE = {
    "errors": {
        "TreeError": [], "NoBook": [], "NoSkill": [], "NoBuild": [], "NoStep": [], "NoWay": [], "NoPlain": [],
        "NoNumber": [], "NoWish": [], "NoWorth": [], "NoSeen": [], "NoKind": [], "NothingBack": [], "NoNote": [],
    },
    "books": {
        "Book": """
            __init__ skills needs wants bars gives prices points reset names __getitem__ need_of price_of given_by
            wants_of __contains__ __len__ __iter__ listed __eq__ changed
        """.split(),
    },
    "builds": {
        "is_build": [], "build_of": [],
        "Build": """
            __init__ skills __or__ __and__ __sub__ __ror__ __rand__ __rsub__ __contains__ __len__ __iter__ listed
            within is_good __eq__
        """.split(),
    },
    "holding": {
        "holds": [], "lacks": [], "is_met": [], "size_let": [], "steps": [], "behind": [], "price_of_step": [],
    },
    "growing": {"looks_down": [], "is_plain": [], "is_bare": [], "ground": [], "is_grown": [], "growth": []},
    "reach": {
        "reached": [], "comes": [], "knots": [], "way_to": [], "fewest_points": [], "closed_without": [],
    },
    "sparing": {
        "spare_way": [], "is_way": [], "way_price": [], "way_end": [], "way_back": [],
        "Walk": """
            __init__ __call__ __iadd__ back now done cost __contains__ __len__ listed twin __eq__ trial trying
        """.split(),
    },
    "prices": {
        "plain_price": [], "plain_way": [], "is_tight": [], "least_price": [], "least_way": [], "potentials": [],
    },
    "papers": {"way_paper": [], "never_paper": [], "paper_of": [], "accepts": []},
    "bounds": {"fewest_gives": [], "is_open": []},
    "notes": {"write_book": [], "read_book": [], "write_build": [], "read_build": []},
    "wishes": {"open_wishes": [], "free_takes": [], "waits": [], "levels": []},
    "carrying": {"carried": [], "is_trap": [], "traps": [], "never_traps": [], "lost": []},
    "greatest": {"worth_of": [], "greatest": [], "greatest_come": [], "best_by_size": []},
    "counting": {
        "all_builds": [], "how_many": [], "by_size": [], "build_at": [], "number_of": [], "bare_count": [],
    },
    "idling": {"idle_wants": [], "is_enough": [], "least_wants": [], "alike": [], "is_under": []},
    "told": {"is_seen": [], "explains": [], "greatest_wants": [], "must": [], "may": [], "next_ask": []},
    "live": {
        "Player": """
            __init__ points carry carry_by now spent asks take give restart raise_to move_to undo __len__ twin trial
            trying
        """.split(),
    },
    "console": {"Console": ["__init__", "run"]},
}

# What a file may import that is not of the package, by the module that has it.
LIBRARY = {
    "heapq": ["heappush", "heappop", "heapify", "heapreplace", "heappushpop"],
    "math": ["gcd", "lcm", "isqrt", "comb", "perm", "factorial"],
}

# Where the call of a generator may stand: it is iterated on the spot.
ITERATING = ["list", "tuple", "dict", "sorted", "sum", "min", "max", "any", "all", "enumerate", "zip"]

DEFINED = (ast.FunctionDef, ast.ClassDef)


def files():
    return [path for path in sorted(FOLDER.iterdir()) if path.name != "__pycache__"]


@functools.cache
def trees():
    return {path.stem: ast.parse(path.read_text(encoding="utf-8")) for path in files()}


def walked(kinds):
    return [(name, node) for name, tree in trees().items() for node in ast.walk(tree) if isinstance(node, kinds)]


def imports_of(tree):
    return [node for node in ast.walk(tree) if isinstance(node, (ast.Import, ast.ImportFrom))]


def bound_names(tree):
    """The names that a file binds at module level, but for its imports."""
    names = [node.name for node in tree.body if isinstance(node, DEFINED)]
    return names + [target.id for node in tree.body if isinstance(node, ast.Assign) for target in node.targets]


class FilesTest(unittest.TestCase):
    def test_the_folder_holds_files_with_plain_names_alone(self):
        for path in files():
            self.assertTrue(path.is_file() and path.suffix == ".py", path)
            self.assertRegex(path.stem, "^[a-z_][a-z0-9_]*$")

    def test_sizes_and_signs(self):
        for path in files():
            lines = path.read_text(encoding="utf-8").split("\n")
            self.assertLess(len(lines) - 1, 400, path)
            for line in lines:
                self.assertLessEqual(len(line), 120, (path, line))
                self.assertTrue(all(" " <= sign <= "~" for sign in line), (path, line))

    def test_functions_are_small(self):
        for name, node in walked(ast.FunctionDef):
            self.assertLessEqual(node.end_lineno - node.lineno + 1, 40, (name, node.name))


class NamesTest(unittest.TestCase):
    def test_module_level_holds_definitions_and_plain_values_once(self):
        for name, tree in trees().items():
            allowed = (ast.ImportFrom, ast.Assign, *DEFINED)
            for node in tree.body[1:]:
                self.assertIsInstance(node, allowed, name)
            self.assertIsInstance(tree.body[0], ast.Expr, name)
            names = bound_names(tree) + [alias.name for node in imports_of(tree) for alias in node.names]
            self.assertEqual(len(names), len(set(names)), name)

    def test_imports_name_the_file_that_defines_the_name(self):
        for name, tree in trees().items():
            for node in imports_of(tree):
                self.assertIsInstance(node, ast.ImportFrom, name)
                if node.module in LIBRARY:
                    self.assertEqual([one.name for one in node.names if one.name not in LIBRARY[node.module]], [])
                    continue
                package, _, file = node.module.partition(".")
                self.assertEqual((package, node.level), ("refundtrees", 0), name)
                for alias in node.names:
                    self.assertIn(alias.name, bound_names(trees()[file]), name)
                    self.assertIsNone(alias.asname, name)

    def test_no_two_files_import_from_each_other(self):
        wanted = {
            name: {node.module.partition(".")[2] for node in imports_of(tree) if node.module not in LIBRARY}
            for name, tree in trees().items()
        }
        while wanted:
            free = [name for name, others in wanted.items() if not others & set(wanted)]
            self.assertTrue(free, wanted)
            wanted = {name: others for name, others in wanted.items() if name not in free}

    def test_only_the_told_builtins_are_used_and_none_is_given_another_meaning(self):
        # Examples that were run ahead leave their last value there as "_".
        meant = set(dir(builtins)) - {"_"}
        for name, node in walked(ast.Name):
            if isinstance(node.ctx, ast.Load):
                self.assertIn(node.id, BUILTINS if node.id in meant else [node.id], name)
            else:
                self.assertNotIn(node.id, meant, name)
        for name, node in walked(ast.arg):
            self.assertNotIn(node.arg, meant, name)

    def test_no_local_name_is_that_of_an_import_or_a_definition_of_its_file(self):
        for name, tree in trees().items():
            taken = {alias.asname or alias.name for node in imports_of(tree) for alias in node.names}
            taken |= {node.name for node in tree.body if isinstance(node, DEFINED)}
            inside = [node for top in tree.body if isinstance(top, DEFINED) for node in ast.walk(top)]
            local = {node.id for node in inside if isinstance(node, ast.Name) and isinstance(node.ctx, ast.Store)}
            local |= {node.arg for node in inside if isinstance(node, ast.arg)}
            self.assertEqual(local & taken, set(), name)

    def test_no_comprehension_stands_bare_in_any_all_and_sum(self):
        self.assertEqual(walked(ast.GeneratorExp), [])

    def test_only_properties_are_decorated(self):
        for name, node in walked(DEFINED):
            for decorator in node.decorator_list:
                self.assertEqual(ast.unparse(decorator), "property", (name, node.name))

    def test_strings_have_no_sign_of_a_format(self):
        for name, node in walked(ast.Constant):
            if isinstance(node.value, str):
                self.assertNotIn("%", node.value, name)

    def test_is_stands_beside_none_and_truths_alone(self):
        for name, node in walked(ast.Compare):
            if isinstance(node.ops[0], (ast.Is, ast.IsNot)):
                self.assertIn(ast.unparse(node.comparators[0]), ("None", "True", "False"), name)


class StatementsTest(unittest.TestCase):
    def test_nothing_is_added_to_in_place_while_walks_are(self):
        self.assertEqual(walked(ast.AugAssign), [])

    def test_generators_are_iterated_on_the_spot_and_have_a_name_of_their_own(self):
        made = [node.name for _, node in walked(ast.FunctionDef) if any(
            isinstance(part, (ast.Yield, ast.YieldFrom)) for part in ast.walk(node))]
        self.assertEqual(made, ["all_builds", "steps"])
        self.assertEqual([node.name for _, node in walked(DEFINED) if node.name in made], made)
        spots = [node.iter for _, node in walked((ast.For, ast.comprehension))]
        spots += [node.args[0] for _, node in walked(ast.Call)
                  if isinstance(node.func, ast.Name) and node.func.id in ITERATING and node.args]
        for name, node in walked(ast.Name):
            if node.id in made:
                calls = [spot for spot in spots if isinstance(spot, ast.Call) and spot.func is node]
                self.assertEqual(len(calls), 1, name)

    def test_the_end_of_a_with_block_is_plain(self):
        allowed = (ast.If, ast.Assign, ast.Compare, ast.BoolOp, ast.Attribute, ast.Name, ast.Constant,
                   ast.expr_context, ast.boolop, ast.Is, ast.IsNot)
        ends = [node for _, node in walked(ast.FunctionDef) if node.name == "__exit__"]
        self.assertEqual(len(ends), 1)
        for node in [node for end in ends for row in end.body for node in ast.walk(row)]:
            self.assertIsInstance(node, allowed)

    def test_the_end_of_a_with_block_asks_by_is_none_alone(self):
        ends = [node for _, node in walked(ast.FunctionDef) if node.name == "__exit__"]
        for choice in [node for end in ends for node in ast.walk(end) if isinstance(node, ast.If)]:
            tests = choice.test.values if isinstance(choice.test, ast.BoolOp) else [choice.test]
            for asked in tests:
                self.assertRegex(ast.unparse(asked), "^[a-z_.]+ is (not )?None$")

    def test_only_own_errors_are_caught(self):
        for name, node in walked(ast.ExceptHandler):
            self.assertIn(ast.unparse(node.type), INTERFACE["errors"], name)


class InterfaceTest(unittest.TestCase):
    def test_each_name_is_defined_in_the_file_that_lists_it(self):
        for file, names in INTERFACE.items():
            defined = {node.name: node for node in trees()[file].body if isinstance(node, DEFINED)}
            for name, methods in names.items():
                self.assertIn(name, defined)
                own = [node.name for node in defined[name].body if isinstance(node, ast.FunctionDef)]
                self.assertEqual([method for method in methods if method not in own], [], name)


if __name__ == "__main__":
    unittest.main()
