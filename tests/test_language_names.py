"""More rules of the project's Python subset: names, module-level values, loops, calls of builtins."""

import ast
import builtins
import unittest

from tests.test_language import trees

MUTATORS = {"append", "clear", "extend", "insert", "pop", "remove", "reverse", "setdefault", "update", "sort", "add"}
KEYWORDS = {"sorted": {"key", "reverse"}, "min": {"key", "default"}, "max": {"key", "default"}, "sum": {"start"},
            "enumerate": {"start"}, "zip": {"strict"}}
READERS = {"len", "sorted", "list", "dict", "tuple", "enumerate", "zip", "max", "min", "sum", "any", "all"}
ONLY_ITERATED = {"zip", "enumerate", "reversed", "range"}


def parents(tree):
    return {id(child): node for node in ast.walk(tree) for child in ast.iter_child_nodes(node)}


def functions(tree):
    return [node for node in ast.walk(tree) if isinstance(node, ast.FunctionDef)]


def module_values(tree):
    """The names of the lists and dicts at module level."""
    return {
        node.targets[0].id for node in tree.body
        if isinstance(node, ast.Assign) and isinstance(node.value, (ast.List, ast.Dict))}


class Names(unittest.TestCase):
    def test_no_local_name_is_that_of_a_class_or_an_import(self):
        for name, tree in trees():
            taken = {alias.name for node in tree.body if isinstance(node, ast.ImportFrom) for alias in node.names}
            taken |= {node.name for node in tree.body if isinstance(node, ast.ClassDef)}
            for function in functions(tree):
                local = {node.arg for node in ast.walk(function) if isinstance(node, ast.arg)}
                local |= {node.id for node in ast.walk(function)
                          if isinstance(node, ast.Name) and isinstance(node.ctx, ast.Store)}
                self.assertFalse(local & taken, (name, function.name))

    def test_no_local_name_is_that_of_an_own_function_of_the_file(self):
        for name, tree in trees():
            taken = {node.name for node in tree.body if isinstance(node, ast.FunctionDef)}
            for function in functions(tree):
                local = {node.id for node in ast.walk(function)
                         if isinstance(node, ast.Name) and isinstance(node.ctx, ast.Store)}
                self.assertFalse(local & taken, (name, function.name))

    def test_every_import_is_used(self):
        for name, tree in trees():
            used = {node.id for node in ast.walk(tree) if isinstance(node, ast.Name)}
            for node in tree.body:
                if isinstance(node, ast.ImportFrom):
                    for alias in node.names:
                        self.assertIsNone(alias.asname)
                        self.assertIn(alias.name, used, name)

    def test_no_name_is_a_method_and_an_attribute_of_one_class(self):
        for name, tree in trees():
            for node in tree.body:
                if isinstance(node, ast.ClassDef):
                    methods = {row.name for row in node.body if isinstance(row, ast.FunctionDef)}
                    attributes = {
                        part.attr for part in ast.walk(node)
                        if isinstance(part, ast.Attribute) and isinstance(part.ctx, ast.Store)}
                    self.assertFalse(methods & attributes, (name, node.name))

    def test_no_attribute_has_the_name_of_a_builtin_method(self):
        barred = {name for kind in (str, int, list, dict, set, bytes, tuple) for name in dir(kind)} - {
            "count", "index", "title", "find", "get", "join", "lower", "upper", "split", "strip", "copy", "add"}
        for name, tree in trees():
            for part in ast.walk(tree):
                if isinstance(part, ast.Attribute) and isinstance(part.ctx, ast.Store):
                    self.assertNotIn(part.attr, barred, name)


class ModuleValues(unittest.TestCase):
    def test_lists_and_dicts_are_only_read(self):
        tables = {value for _, tree in trees() for value in module_values(tree)}
        for name, tree in trees():
            above = parents(tree)
            for node in ast.walk(tree):
                if not (isinstance(node, ast.Name) and node.id in tables and isinstance(node.ctx, ast.Load)):
                    continue
                parent = above[id(node)]
                if isinstance(parent, ast.Subscript):
                    self.assertIsInstance(parent.ctx, ast.Load, (name, node.lineno))
                elif isinstance(parent, ast.Call):
                    self.assertIn(parent.func.id, READERS, (name, node.lineno))
                elif isinstance(parent, ast.Attribute):
                    self.assertIn(parent.attr, {"get", "items", "keys", "values", "index"}, (name, node.lineno))
                else:
                    self.assertIsInstance(parent, (ast.Compare, ast.For, ast.comprehension), (name, node.lineno))


class Loops(unittest.TestCase):
    def test_what_a_loop_goes_over_is_not_changed_in_it(self):
        for name, tree in trees():
            for loop in ast.walk(tree):
                if not isinstance(loop, ast.For):
                    continue
                over = {ast.unparse(part) for part in ast.walk(loop.iter) if isinstance(part, (ast.Name, ast.Attribute))}
                for row in loop.body:
                    for part in ast.walk(row):
                        if isinstance(part, ast.Call) and isinstance(part.func, ast.Attribute):
                            if part.func.attr in MUTATORS:
                                self.assertNotIn(ast.unparse(part.func.value), over, (name, part.lineno))
                        if isinstance(part, ast.Subscript) and not isinstance(part.ctx, ast.Load):
                            self.assertNotIn(ast.unparse(part.value), over, (name, part.lineno))
                        if isinstance(part, ast.Name) and isinstance(part.ctx, ast.Store):
                            self.assertNotIn(part.id, over, (name, part.lineno))

    def test_what_is_iterated_at_once_is_not_kept(self):
        for name, tree in trees():
            above = parents(tree)
            for node in ast.walk(tree):
                if isinstance(node, ast.Call) and isinstance(node.func, ast.Name) and node.func.id in ONLY_ITERATED:
                    parent = above[id(node)]
                    if isinstance(parent, ast.Assign):
                        self.assertEqual(node.func.id, "range", (name, node.lineno))
                    elif isinstance(parent, ast.Call):
                        self.assertIn(parent.func.id, READERS | ONLY_ITERATED, (name, node.lineno))
                    else:
                        self.assertIsInstance(parent, (ast.For, ast.comprehension, ast.Compare), (name, node.lineno))


class Calls(unittest.TestCase):
    def test_keywords_of_builtins(self):
        for name, tree in trees():
            for node in ast.walk(tree):
                if isinstance(node, ast.Call) and isinstance(node.func, ast.Name) and hasattr(builtins, node.func.id):
                    told = {keyword.arg for keyword in node.keywords}
                    self.assertLessEqual(told, KEYWORDS.get(node.func.id, set()), (name, node.lineno))

    def test_sets_stand_only_where_they_may(self):
        for name, tree in trees():
            above = parents(tree)
            for node in ast.walk(tree):
                is_call = isinstance(node, ast.Call) and isinstance(node.func, ast.Name) and node.func.id == "set"
                if is_call or isinstance(node, (ast.Set, ast.SetComp)):
                    parent = above[id(node)]
                    while isinstance(parent, ast.BinOp):
                        parent = above[id(parent)]
                    if isinstance(parent, ast.Call):
                        self.assertIn(parent.func.id, ("len", "sorted"), (name, node.lineno))
                    else:
                        self.assertIsInstance(parent, (ast.Compare, ast.Assign), (name, node.lineno))

    def test_no_dict_views_are_kept(self):
        for name, tree in trees():
            above = parents(tree)
            for node in ast.walk(tree):
                if isinstance(node, ast.Call) and isinstance(node.func, ast.Attribute):
                    if node.func.attr in ("items", "keys", "values"):
                        parent = above[id(node)]
                        if isinstance(parent, ast.Call):
                            self.assertIn(parent.func.id, READERS, (name, node.lineno))
                        else:
                            self.assertIsInstance(parent, (ast.For, ast.comprehension), (name, node.lineno))

    def test_powers_have_plain_exponents(self):
        for name, tree in trees():
            for node in ast.walk(tree):
                if isinstance(node, ast.BinOp) and isinstance(node.op, ast.Pow):
                    self.assertIsInstance(node.right, ast.Constant, (name, node.lineno))
                    self.assertIn(node.right.value, range(65), (name, node.lineno))


if __name__ == "__main__":
    unittest.main()
