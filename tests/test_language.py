"""Those rules of the program's language that can be seen in its files one by one."""

import ast
import pathlib
import unittest

PACKAGE = pathlib.Path(__file__).resolve().parent.parent / "elderdraw"
LIBRARY = {
    "math": {"gcd", "lcm", "isqrt", "comb", "perm", "factorial"},
    "heapq": {"heappush", "heappop", "heapify", "heapreplace", "heappushpop"},
    "itertools": {"product", "combinations", "permutations", "chain", "accumulate", "pairwise", "islice", "zip_longest"},
    "collections": {"defaultdict"},
}
BUILTINS = """len range enumerate zip min max sum abs sorted reversed int str bool bytes list tuple dict set frozenset isinstance
    ord repr any all divmod map iter next super ValueError KeyError IndexError LookupError TypeError""".split()
METHODS = """append clear copy count endswith extend find get index insert isalnum isalpha isdigit islower isspace isupper
    items join keys ljust lower lstrip partition pop remove replace reverse rfind rjust rpartition rsplit rstrip setdefault
    split splitlines startswith strip update upper values zfill bit_length isascii add discard""".split()
SPECIAL = {"__init__", "__eq__", "__repr__", "__str__", "__len__"}
# A class with == stands in the package: any, all, sum and the like take lists, and nothing is sorted in place.
UNWANTED = (ast.Global, ast.AsyncFunctionDef, ast.Await, ast.Div, ast.GeneratorExp, ast.Import)


def files():
    return sorted(PACKAGE.rglob("*.py"))


def nodes(kind):
    for path in files():
        for node in ast.walk(ast.parse(path.read_text())):
            if isinstance(node, kind):
                yield path.name, node


def is_plain_is(node):
    return isinstance(node, ast.Compare) and all(
        isinstance(side, ast.Constant) for sign, side in zip(node.ops, node.comparators) if isinstance(sign, (ast.Is, ast.IsNot)))


def tables(tree):
    """The names of dicts of own functions that stand at module level."""
    own = {one.name for one in tree.body if isinstance(one, ast.FunctionDef)}
    for one in tree.body:
        if isinstance(one, ast.Assign) and isinstance(one.value, ast.Dict):
            if all(isinstance(value, ast.Name) and value.id in own for value in one.value.values):
                yield one.targets[0].id


def taken_out_of_a_table(tree):
    """The names that are assigned an item of such a dict."""
    known = set(tables(tree))
    for node in ast.walk(tree):
        if isinstance(node, ast.Assign) and isinstance(node.value, ast.Subscript):
            if isinstance(node.value.value, ast.Name) and node.value.value.id in known:
                yield from (target.id for target in node.targets)


class Language(unittest.TestCase):
    def test_the_folder_has_plain_files_alone(self):
        for path in PACKAGE.rglob("*"):
            if "__pycache__" not in path.parts:
                self.assertEqual(path.suffix, ".py", path)
                self.assertTrue(path.stem.replace("_", "").isalnum() and path.name == path.name.lower(), path)
        self.assertTrue((PACKAGE / "__init__.py").exists())

    def test_sizes_and_characters(self):
        for path in files():
            rows = path.read_text().split("\n")
            self.assertLessEqual(len(rows), 399, path)
            for row in rows:
                self.assertLessEqual(len(row), 120, path)
                self.assertTrue(all(" " <= sign <= "~" for sign in row), (path, row))

    def test_functions_have_at_most_forty_lines(self):
        for name, node in nodes(ast.FunctionDef):
            self.assertLessEqual(node.end_lineno - node.lineno + 1, 40, (name, node.name))

    def test_imports(self):
        for name, node in nodes(ast.ImportFrom):
            if node.module in LIBRARY:
                self.assertLessEqual({alias.name for alias in node.names}, LIBRARY[node.module], name)
                self.assertEqual({alias.asname for alias in node.names}, {None}, name)
            else:
                self.assertEqual((node.level, node.module.split(".")[0], node.module.count(".")), (0, "elderdraw", 1), name)
                wanted = ast.parse((PACKAGE / (node.module.split(".")[1] + ".py")).read_text())
                bound = {one.name for one in wanted.body if isinstance(one, (ast.FunctionDef, ast.ClassDef))}
                self.assertLessEqual({alias.name for alias in node.names}, bound, name)

    def test_no_two_files_import_from_each_other(self):
        wants = {path.stem: set() for path in files()}
        for name, node in nodes(ast.ImportFrom):
            if node.module.startswith("elderdraw."):
                wants[name.removesuffix(".py")].add(node.module.split(".")[1])
        while wants:
            free = [stem for stem, wanted in wants.items() if not wanted & set(wants)]
            self.assertTrue(free, wants)
            for stem in free:
                del wants[stem]

    def test_no_class_has_a_method_and_an_attribute_of_one_name(self):
        for name, node in nodes(ast.ClassDef):
            methods = {one.name for one in node.body if isinstance(one, ast.FunctionDef)}
            attributes = {one.attr for one in ast.walk(node) if isinstance(one, ast.Attribute) and isinstance(one.ctx, ast.Store)}
            self.assertEqual(methods & attributes, set(), (name, node.name))

    def test_nothing_unwanted_stands_there(self):
        for name, node in nodes(UNWANTED):
            self.fail((name, ast.dump(node)))
        for name, node in nodes(ast.Compare):
            self.assertTrue(is_plain_is(node), (name, node.lineno))
        for name, node in nodes(ast.Constant):
            self.assertNotIsInstance(node.value, (float, complex), name)
        for name, node in nodes(ast.Attribute):
            self.assertNotEqual(node.attr, "sort", name)

    def test_methods_with_double_underscores(self):
        for name, node in nodes(ast.FunctionDef):
            self.assertEqual(node.decorator_list, [], name)
            if node.name.startswith("__"):
                self.assertIn(node.name, SPECIAL, name)

    def test_exponents_are_literals_up_to_64(self):
        for name, node in nodes(ast.BinOp):
            if isinstance(node.op, ast.Pow):
                self.assertTrue(isinstance(node.right, ast.Constant) and 0 <= node.right.value <= 64, (name, node.lineno))

    def test_what_is_called_by_name_is_own_or_handed_in_or_an_allowed_builtin(self):
        for path in files():
            tree = ast.parse(path.read_text())
            known = {*BUILTINS, *taken_out_of_a_table(tree)}
            for node in ast.walk(tree):
                if isinstance(node, (ast.FunctionDef, ast.ClassDef)):
                    known.add(node.name)
                if isinstance(node, ast.ImportFrom):
                    known |= {alias.name for alias in node.names}
                if isinstance(node, ast.arg):
                    known.add(node.arg)
            for node in ast.walk(tree):
                if isinstance(node, ast.Call) and isinstance(node.func, ast.Name):
                    self.assertIn(node.func.id, known, path)

    def test_methods_that_are_called_are_own_or_allowed(self):
        own = {node.name for _, node in nodes(ast.FunctionDef)}
        for name, node in nodes(ast.Call):
            if isinstance(node.func, ast.Attribute):
                self.assertTrue(node.func.attr in METHODS or node.func.attr in own, (name, node.func.attr))

    def test_at_module_level_stand_plain_values_alone(self):
        for path in files():
            for node in ast.parse(path.read_text()).body:
                if isinstance(node, ast.Assign):
                    self.assertEqual(len(node.targets), 1, path)
                    for part in ast.walk(node.value):
                        self.assertNotIsInstance(part, (ast.Call, ast.Lambda, ast.Set, ast.ListComp, ast.DictComp), path)
                else:
                    kinds = (ast.Expr, ast.ImportFrom, ast.FunctionDef, ast.ClassDef)
                    self.assertIsInstance(node, kinds, path)

    def test_no_parameter_or_variable_hides_an_import_a_class_or_a_builtin(self):
        for path in files():
            tree = ast.parse(path.read_text())
            barred = {*BUILTINS, "id", "input", "open", "type", "vars", "dir", "hash", "filter", "format", "round"}
            for node in ast.walk(tree):
                if isinstance(node, ast.ClassDef):
                    barred.add(node.name)
                if isinstance(node, ast.ImportFrom):
                    barred |= {alias.name for alias in node.names}
            for node in ast.walk(tree):
                if isinstance(node, ast.arg):
                    self.assertNotIn(node.arg, barred, path)
                if isinstance(node, ast.Name) and isinstance(node.ctx, ast.Store):
                    self.assertNotIn(node.id, barred, path)


class Interface(unittest.TestCase):
    LISTED = {
        "shares": ["Share", "plus", "minus", "times", "over", "less", "sum_of"],
        "walks": ["Walk", "closed_sets", "resting", "is_resting"],
        "turns": ["Turns", "walk_of", "go_as", "plain_turns"],
        "words": ["map_of", "maps_of", "never_meet", "meeting"],
        "elder": ["Draw", "drawn", "drawn_doubled"],
        "orders": ["Order", "not_kept", "drawn_between"],
        "counts": ["counts", "map_counts"],
        "tables": ["draw_table", "draw_shares", "wait_table"],
        "wrong": ["met_forward", "forward_table", "forward_shares", "tried_shares"],
        "once": ["blocks", "read_once", "once_shares"],
        "webs": ["Web", "turns_of", "order_of"],
        "texts": ["show", "read"],
        "desk": ["Desk"],
    }
    METHODS = {
        "Share": ["__init__", "__eq__", "__str__"],
        "Walk": ["__init__", "share", "__len__"],
        "Turns": ["__init__", "__eq__", "__len__"],
        "Draw": ["__init__", "elder", "place", "used", "looked", "__len__"],
        "Order": ["__init__", "at_most", "least", "greatest", "__len__"],
        "Web": ["__init__"],
        "Desk": ["__init__", "say"],
    }

    def test_what_is_listed_stands_in_its_file_and_its_class(self):
        for stem, names in self.LISTED.items():
            tree = ast.parse((PACKAGE / (stem + ".py")).read_text())
            found = {node.name: node for node in tree.body if isinstance(node, (ast.FunctionDef, ast.ClassDef))}
            for name in names:
                self.assertIn(name, found)
                methods = [node.name for node in ast.walk(found[name]) if isinstance(node, ast.FunctionDef)]
                for method in self.METHODS.get(name, []):
                    self.assertIn(method, methods)


if __name__ == "__main__":
    unittest.main()
