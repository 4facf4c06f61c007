"""The rules of LANGUAGE.md that can be seen in a file at once: sizes, characters, imports, names."""

import ast
import builtins
import pathlib
import re
import unittest

PACKAGE = pathlib.Path(__file__).resolve().parent.parent / "tripmeans"
FILES = sorted(PACKAGE.glob("*.py"))
LIBRARY = {"heapq": {"heappush", "heappop"}, "math": {"gcd", "lcm"}, "itertools": {"combinations", "permutations"}}
BARRED = {"register", "mro", "elements", "open", "input", "law", "eval", "exec", "id", "type", "vars", "dir", "map",
          "filter", "hash", "round", "object", "format", "next", "iter", "slice", "float", "chr", "compile", "sys"}


class Language(unittest.TestCase):
    def each(self):
        for path in FILES:
            text = path.read_text(encoding="utf-8")
            yield path.name, text, ast.parse(text)

    def test_the_folder_has_files_alone(self):
        self.assertIn("__init__.py", [path.name for path in FILES])
        others = [path.name for path in PACKAGE.iterdir() if path.suffix != ".py" and path.name != "__pycache__"]
        self.assertEqual(others, [])

    def test_sizes(self):
        for name, text, tree in self.each():
            lines = text.split("\n")
            self.assertLessEqual(len(lines), 399, name)
            self.assertLessEqual(max(map(len, lines)), 120, name)
            for node in ast.walk(tree):
                if isinstance(node, ast.FunctionDef):
                    self.assertLessEqual(node.end_lineno - node.lineno + 1, 40, node.name)

    def test_characters(self):
        for name, text, _ in self.each():
            self.assertEqual([c for c in text if c != "\n" and not " " <= c <= "~"], [], name)
            self.assertIsNone(re.search(r"_wall|_WallAttr", text), name)
            self.assertIsNone(re.search(r"\b_(pe|dcw|enum|cm|twin_re|lay|law|stub)_|\b_sre", text), name)
            self.assertIsNone(re.search(r"\b_(cold|tuplegetter|outside|record|written_out|member_names)", text), name)

    def test_imports(self):
        for name, _, tree in self.each():
            for node in ast.walk(tree):
                self.assertNotIsInstance(node, ast.Import, name)
                if isinstance(node, ast.ImportFrom):
                    self.assertEqual(node.level, 0)
                    names = {alias.name for alias in node.names}
                    inside = node.module.startswith("tripmeans.")
                    self.assertTrue(inside or names <= LIBRARY.get(node.module, set()), (name, node.module))

    def test_imports_name_the_very_file(self):
        defined = {}
        for name, _, tree in self.each():
            names = [node.name for node in tree.body if isinstance(node, (ast.FunctionDef, ast.ClassDef))]
            names += [node.targets[0].id for node in tree.body if isinstance(node, ast.Assign)]
            self.assertEqual(len(names), len(set(names)), name)
            defined["tripmeans." + name[:-3]] = names
        for name, _, tree in self.each():
            for node in tree.body:
                if isinstance(node, ast.ImportFrom) and node.module in defined:
                    for alias in node.names:
                        self.assertIn(alias.name, defined[node.module], name)

    def test_only_what_may_stand_in_a_module(self):
        for name, _, tree in self.each():
            for node in tree.body:
                self.assertIsInstance(node, (ast.Expr, ast.ImportFrom, ast.FunctionDef, ast.ClassDef, ast.Assign), name)
                self.assertFalse(isinstance(node, ast.Assign) and any(isinstance(part, ast.Call) for part in ast.walk(node)))

    def test_tries_catch_own_errors_alone(self):
        for name, _, tree in self.each():
            for node in ast.walk(tree):
                if isinstance(node, ast.ExceptHandler):
                    self.assertEqual(ast.unparse(node.type), "TripError", name)

    def test_no_two_files_import_each_other(self):
        needs = {}
        for name, _, tree in self.each():
            found = [node.module for node in ast.walk(tree) if isinstance(node, ast.ImportFrom)]
            needs["tripmeans." + name[:-3]] = [module for module in found if module.startswith("tripmeans.")]
        while needs:
            free = [name for name in needs if not any(other in needs for other in needs[name])]
            self.assertTrue(free, needs)
            needs = {name: needs[name] for name in needs if name not in free}

    def test_statements_and_values(self):
        barred = (ast.Global, ast.AsyncFunctionDef, ast.Await, ast.Set, ast.Div, ast.GeneratorExp)
        for name, _, tree in self.each():
            for node in ast.walk(tree):
                self.assertNotIsInstance(node, barred, name)
                self.assertFalse(isinstance(node, ast.Constant) and isinstance(node.value, (float, complex)), name)

    def test_loops_do_not_change_what_they_go_over(self):
        changing = ("append", "clear", "extend", "insert", "pop", "remove", "reverse", "setdefault", "update")
        for name, _, tree in self.each():
            for loop in ast.walk(tree):
                if isinstance(loop, ast.For):
                    over = {ast.unparse(part) for part in ast.walk(loop.iter) if isinstance(part, (ast.Name, ast.Attribute))}
                    for node in [part for row in loop.body for part in ast.walk(row)]:
                        if isinstance(node, ast.Subscript) and not isinstance(node.ctx, ast.Load):
                            self.assertNotIn(ast.unparse(node.value), over, (name, loop.lineno))
                        if isinstance(node, ast.Call) and isinstance(node.func, ast.Attribute) and node.func.attr in changing:
                            self.assertNotIn(ast.unparse(node.func.value), over, (name, loop.lineno))

    def test_names(self):
        for name, _, tree in self.each():
            for node in ast.walk(tree):
                if isinstance(node, (ast.Name, ast.Attribute, ast.arg, ast.FunctionDef)):
                    word = getattr(node, "id", None) or getattr(node, "attr", None) or getattr(node, "arg", None)
                    self.assertNotIn(word or node.name, BARRED, name)

    def test_no_name_means_something_else(self):
        for name, _, tree in self.each():
            taken = {alias.name for node in ast.walk(tree) if isinstance(node, ast.ImportFrom) for alias in node.names}
            taken |= {node.name for node in ast.walk(tree) if isinstance(node, ast.ClassDef)}
            bound = [node.id for node in ast.walk(tree) if isinstance(node, ast.Name) and isinstance(node.ctx, ast.Store)]
            bound += [node.arg for node in ast.walk(tree) if isinstance(node, ast.arg)]
            self.assertEqual(taken & set(bound), set(), name)
            bound += [node.name for node in tree.body if isinstance(node, (ast.FunctionDef, ast.ClassDef))]
            self.assertEqual(set(dir(builtins)) & (taken | set(bound)), set(), name)

    def test_no_name_is_a_method_and_an_attribute(self):
        methods, attributes = set(), set()
        for _, _, tree in self.each():
            for node in ast.walk(tree):
                if isinstance(node, ast.ClassDef):
                    methods |= {item.name for item in node.body if isinstance(item, ast.FunctionDef)}
                if isinstance(node, ast.Attribute) and isinstance(node.ctx, ast.Store):
                    attributes.add(node.attr)
        self.assertEqual(methods & attributes, set())

    def test_every_function_says_what_it_does(self):
        for name, _, tree in self.each():
            self.assertIsNotNone(ast.get_docstring(tree), name)
            for node in ast.walk(tree):
                if isinstance(node, (ast.FunctionDef, ast.ClassDef)) and not node.name.startswith("__"):
                    self.assertIsNotNone(ast.get_docstring(node), (name, node.name))


if __name__ == "__main__":
    unittest.main()
