"""The rules of form that can be read off the files of the package."""

import ast
import builtins
import os
import unittest

ROOT = os.path.dirname(os.path.dirname(os.path.abspath(__file__)))
FOLDER = os.path.join(ROOT, "allwordlengths")

SPECIAL = """__init__ __eq__ __repr__ __str__ __len__ __enter__ __exit__ __call__ __iter__
__lt__ __le__ __gt__ __ge__ __ne__
__add__ __sub__ __mul__ __floordiv__ __mod__ __pow__ __and__ __or__ __xor__ __lshift__ __rshift__
__radd__ __rsub__ __rmul__ __rfloordiv__ __rmod__ __rand__ __ror__ __rxor__ __rlshift__ __rrshift__
__iadd__ __isub__ __imul__ __ifloordiv__ __imod__ __ipow__ __iand__ __ior__ __ixor__ __ilshift__ __irshift__
__neg__ __pos__ __invert__ __abs__ __bool__ __contains__ __getitem__ __setitem__""".split()

BUILTINS = """len range enumerate zip min max sum abs sorted reversed int str bool bytes list tuple dict set
isinstance ord repr any all divmod pow iter next map ValueError TypeError KeyError IndexError
NotImplemented property staticmethod classmethod super object""".split()

LIBRARY = ("heapq", "math", "itertools", "collections", "__future__")


def files():
    return sorted(name for name in os.listdir(FOLDER) if name != "__pycache__")


def source(name):
    with open(os.path.join(FOLDER, name), encoding="utf-8") as file:
        return file.read()


def nodes(name, *kinds):
    return [node for node in ast.walk(ast.parse(source(name))) if isinstance(node, kinds)]


def imported(name):
    """The files of the package from which a file imports."""
    return [node.module.split(".")[1] + ".py" for node in nodes(name, ast.ImportFrom)
            if node.module.startswith("allwordlengths.")]


class FormTest(unittest.TestCase):
    def test_files(self):
        self.assertIn("__init__.py", files())
        for name in files():
            self.assertRegex(name, r"\A[a-z_0-9]+\.py\Z")

    def test_characters_and_lines(self):
        for name in files():
            text = source(name)
            self.assertTrue(all(sign == "\n" or " " <= sign <= "~" for sign in text), name)
            lines = text.split("\n")
            self.assertLessEqual(len(lines) - 1, 399, name)
            self.assertLessEqual(max(len(line) for line in lines), 120, name)

    def test_sizes_of_functions(self):
        for name in files():
            for node in nodes(name, ast.FunctionDef):
                self.assertLessEqual(node.end_lineno - node.lineno + 1, 40, (name, node.name))

    def test_imports(self):
        for name in files():
            self.assertEqual(nodes(name, ast.Import), [], name)
            for node in nodes(name, ast.ImportFrom):
                self.assertEqual(node.level, 0)
                self.assertIn(node.module.split(".")[0], ("allwordlengths", *LIBRARY))
                self.assertTrue(all(alias.asname is None and alias.name != "*" for alias in node.names))

    def test_no_circles(self):
        def reached(name, path):
            self.assertNotIn(name, path)
            for other in imported(name):
                reached(other, [*path, name])

        for name in files():
            reached(name, [])

    def test_special_methods(self):
        for name in files():
            for node in nodes(name, ast.FunctionDef):
                if node.name.startswith("__"):
                    self.assertIn(node.name, SPECIAL, name)

    def test_builtins(self):
        others = set(dir(builtins)) - set(BUILTINS)
        for name in files():
            self.assertEqual([node.id for node in nodes(name, ast.Name) if node.id in others], [], name)

    def test_names_are_not_those_of_builtins(self):
        for name in files():
            bound = [node.id for node in nodes(name, ast.Name) if isinstance(node.ctx, ast.Store)]
            bound += [node.name for node in nodes(name, ast.FunctionDef, ast.ClassDef)]
            bound += [node.arg for node in nodes(name, ast.arg)]
            self.assertEqual([word for word in bound if word in dir(builtins) and word not in SPECIAL], [], name)

    def test_module_level(self):
        kinds = (ast.Expr, ast.ImportFrom, ast.FunctionDef, ast.ClassDef, ast.Assign)
        for name in files():
            for node in ast.parse(source(name)).body:
                self.assertIsInstance(node, kinds, name)
                if isinstance(node, ast.Expr):
                    self.assertIsInstance(node.value, ast.Constant, name)

    def test_statements_and_expressions_that_are_not_used(self):
        for name in files():
            self.assertEqual(nodes(name, ast.AsyncFunctionDef, ast.Await, ast.Div), [], name)
            self.assertEqual([node.value for node in nodes(name, ast.Constant) if isinstance(node.value, float)], [])


if __name__ == "__main__":
    unittest.main()
