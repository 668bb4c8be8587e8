"""The rules of form that can be read off the files of the package."""

import ast
import builtins
import os
import unittest

ROOT = os.path.dirname(os.path.dirname(os.path.abspath(__file__)))
FOLDER = os.path.join(ROOT, "allwordlengths")

SPECIAL = """__init__ __eq__ __repr__ __str__ __len__ __enter__ __exit__ __call__ __iter__
__lt__ __le__ __gt__ __ge__ __ne__
__add__ __sub__ __mul__ __floordiv__ __mod__ __pow__ __and__ __or__ __xor__ __lshift__ __rshift__
__radd__ __rsub__ __rmul__ __rfloordiv__ __rmod__ __rand__ __ror__ __rxor__ __rlshift__ __rrshift__
__iadd__ __isub__ __imul__ __ifloordiv__ __imod__ __ipow__ __iand__ __ior__ __ixor__ __ilshift__ __irshift__
__neg__ __pos__ __invert__ __abs__ __bool__ __contains__ __getitem__ __setitem__""".split()

BUILTINS = """len range enumerate zip min max sum abs sorted reversed int str bool bytes list tuple dict set
isinstance ord repr any all divmod pow iter next map ValueError TypeError KeyError IndexError
NotImplemented property staticmethod classmethod super object""".split()

METHODS = """append clear copy count endswith extend find get index insert isalnum isalpha isdigit islower isspace
isupper items join keys ljust lower lstrip partition pop remove replace reverse rfind rjust rpartition rsplit rstrip
setdefault split splitlines startswith strip update upper values zfill bit_length add discard""".split()

# What the document's interface lists, with the methods of the classes.
INTERFACE = {
    "steps": {"Step": "done", "roll_step": "", "near_step": "", "sum_step": "", "flip_step": "", "all_steps": ""},
    "programs": {"Program": "of done trace beginning rearranges reduced"},
    "places": dict.fromkeys("goes_to comes_from flips_on_way round_trip place_after times_home".split(), ""),
    "marks": {"Marks": "of_bits many is_none below next_from last_upto nth listed as_bits __contains__ __eq__ __xor__ "
                       "__and__ __or__ __sub__ __invert__"},
    "walks": {"behind": "", "far_trace": "", "Parity": "value back is_kept __add__ __eq__", "bit_at": "", "hangs_on": ""},
    "machines": {"Machine": "moves value sum_for __eq__"},
    "tables": {"Table": "at flip row next_in_row column next_in_column __eq__"},
    "sizes": {"Sizes": "least greatest next_from last_upto from_on is_none is_all is_endless within count_upto each "
                       "halves twice shifted __contains__ __eq__ __or__ __and__ __sub__ __xor__ __invert__",
              "no_sizes": "", "all_sizes": "", "sizes_upto": "", "sizes_from": "", "only_sizes": "", "sizes_rest": "",
              "sizes_of_rows": "", "sizes_by": ""},
    "agree": {"agree_sizes": "", "zero_sizes": ""},
    "compare": {"alike": "", "apart_sizes": "", "alike_at": "", "first_apart": ""},
    "powers": {"back_sizes": "", "commute_sizes": "", "takes_back_sizes": ""},
    "kept": {"kept_sizes": "", "turned_sizes": ""},
    "hanging": {"hangs_sizes": "", "flipped_sizes": "", "same_bit_sizes": ""},
    "shortest": {"shortest": ""},
    "told": dict.fromkeys("fits candidates agreed_sizes question learned".split(), ""),
    "bench": {"Bench": "drop turn_back chain written read undo redo at_once groups groups_at "
                       "__setitem__ __getitem__ __contains__ __len__ __iter__ __eq__"},
}

LIBRARY = ("heapq", "math", "itertools", "collections", "__future__")


def files():
    return sorted(name for name in os.listdir(FOLDER) if name != "__pycache__")


def source(name):
    with open(os.path.join(FOLDER, name), encoding="utf-8") as file:
        return file.read()


def nodes(name, *kinds):
    return [node for node in ast.walk(ast.parse(source(name))) if isinstance(node, kinds)]


def imported(name):
    """The files of the package from which a file imports."""
    return [node.module.split(".")[1] + ".py" for node in nodes(name, ast.ImportFrom)
            if node.module.startswith("allwordlengths.")]


class FormTest(unittest.TestCase):
    def test_files(self):
        self.assertIn("__init__.py", files())
        for name in files():
            self.assertRegex(name, r"\A[a-z_0-9]+\.py\Z")

    def test_characters_and_lines(self):
        for name in files():
            text = source(name)
            self.assertTrue(all(sign == "\n" or " " <= sign <= "~" for sign in text), name)
            lines = text.split("\n")
            self.assertLessEqual(len(lines) - 1, 399, name)
            self.assertLessEqual(max(len(line) for line in lines), 120, name)

    def test_sizes_of_functions(self):
        for name in files():
            for node in nodes(name, ast.FunctionDef):
                self.assertLessEqual(node.end_lineno - node.lineno + 1, 40, (name, node.name))

    def test_imports(self):
        for name in files():
            self.assertEqual(nodes(name, ast.Import), [], name)
            for node in nodes(name, ast.ImportFrom):
                self.assertEqual(node.level, 0)
                self.assertIn(node.module.split(".")[0], ("allwordlengths", *LIBRARY))
                self.assertTrue(all(alias.asname is None and alias.name != "*" for alias in node.names))

    def test_no_circles(self):
        def reached(name, path):
            self.assertNotIn(name, path)
            for other in imported(name):
                reached(other, [*path, name])

        for name in files():
            reached(name, [])

    def test_special_methods(self):
        for name in files():
            for node in nodes(name, ast.FunctionDef):
                if node.name.startswith("__"):
                    self.assertIn(node.name, SPECIAL, name)

    def test_builtins(self):
        others = set(dir(builtins)) - set(BUILTINS)
        for name in files():
            self.assertEqual([node.id for node in nodes(name, ast.Name) if node.id in others], [], name)

    def test_names_are_not_those_of_builtins(self):
        for name in files():
            bound = [node.id for node in nodes(name, ast.Name) if isinstance(node.ctx, ast.Store)]
            bound += [node.name for node in nodes(name, ast.FunctionDef, ast.ClassDef)]
            bound += [node.arg for node in nodes(name, ast.arg)]
            self.assertEqual([word for word in bound if word in dir(builtins) and word not in SPECIAL], [], name)

    def test_module_level(self):
        kinds = (ast.Expr, ast.ImportFrom, ast.FunctionDef, ast.ClassDef, ast.Assign)
        for name in files():
            for node in ast.parse(source(name)).body:
                self.assertIsInstance(node, kinds, name)
                if isinstance(node, ast.Expr):
                    self.assertIsInstance(node.value, ast.Constant, name)

    def test_statements_and_expressions_that_are_not_used(self):
        for name in files():
            self.assertEqual(nodes(name, ast.AsyncFunctionDef, ast.Await, ast.Div), [], name)
            self.assertEqual([node.value for node in nodes(name, ast.Constant) if isinstance(node.value, float)], [])

    def test_handlers(self):
        """Only errors of the package are caught; a block that is done in any case assigns, and asks for None."""
        errors = [node.name for node in nodes("errors.py", ast.ClassDef)]
        for name in files():
            for node in nodes(name, ast.ExceptHandler):
                caught = node.type.elts if isinstance(node.type, ast.Tuple) else [node.type]
                self.assertEqual([part.id for part in caught if part.id not in errors], [], name)
            for node in nodes(name, ast.Try):
                for part in node.finalbody:
                    self.assertTrue(isinstance(part, ast.If) and isinstance(part.test.ops[0], ast.Is), name)
                    self.assertTrue(all(isinstance(row, ast.Assign) for row in part.body), name)

    def test_no_changes_by_other_signs(self):
        for name in files():
            self.assertEqual(nodes(name, ast.Global, ast.Nonlocal, ast.GeneratorExp, ast.NamedExpr), [], name)
            for node in nodes(name, ast.AugAssign):
                self.assertIsInstance(node.value, ast.Constant, name)

    def test_methods(self):
        own = {node.name for name in files() for node in nodes(name, ast.FunctionDef)}
        stored = {node.attr for name in files() for node in nodes(name, ast.Attribute) if isinstance(node.ctx, ast.Store)}
        for name in files():
            called = [node.func.attr for node in nodes(name, ast.Call) if isinstance(node.func, ast.Attribute)]
            self.assertEqual([word for word in called if word not in METHODS and word not in own | stored
                              and word != "__init__"], [], name)

    def test_names_are_not_those_of_imports_and_classes(self):
        for name in files():
            taken = {alias.name for node in nodes(name, ast.ImportFrom) for alias in node.names}
            taken |= {node.name for node in nodes(name, ast.ClassDef)}
            bound = [node.id for node in nodes(name, ast.Name) if isinstance(node.ctx, ast.Store)]
            bound += [node.arg for node in nodes(name, ast.arg)]
            bound += [node.name for function in nodes(name, ast.FunctionDef) for node in ast.walk(function)
                      if isinstance(node, ast.FunctionDef) and node is not function]
            self.assertEqual([word for word in bound if word in taken], [], name)

    def test_imports_name_the_file_that_defines(self):
        for name in files():
            for node in nodes(name, ast.ImportFrom):
                if node.module.startswith("allwordlengths."):
                    body = ast.parse(source(node.module.split(".")[1] + ".py")).body
                    defined = [part.name for part in body if isinstance(part, (ast.FunctionDef, ast.ClassDef))]
                    defined += [target.id for part in body if isinstance(part, ast.Assign) for target in part.targets]
                    self.assertEqual([alias.name for alias in node.names if alias.name not in defined], [], name)

    def test_imports_are_used(self):
        for name in files():
            used = [node.id for node in nodes(name, ast.Name)]
            for node in nodes(name, ast.ImportFrom):
                self.assertEqual([alias.name for alias in node.names if alias.name not in used], [], name)

    def test_interface(self):
        for module, listed in INTERFACE.items():
            body = ast.parse(source(module + ".py")).body
            defined = {node.name: node for node in body if isinstance(node, (ast.FunctionDef, ast.ClassDef))}
            for word, methods in listed.items():
                self.assertIn(word, defined, module)
                own = [node.name for node in defined[word].body if isinstance(node, ast.FunctionDef)]
                self.assertEqual([method for method in methods.split() if method not in own], [], word)


if __name__ == "__main__":
    unittest.main()
