"""[2]: the interface's names, arguments, defaults, and the files that define them."""

import importlib
import inspect
import unittest

FUNCTIONS = {
    "bytesrows": {
        "is_row": "(thing)", "show_hex": "(row)", "read_hex": "(text)", "bytes_of": "(number, *, many=2)",
        "number_of": "(row)", "long_of": "(number)", "long_at": "(row, *, at=0)", "sum_of": "(row)"},
    "words": {
        "is_word": "(thing)", "bytes_of_word": "(word)", "word_at": "(row, *, at=0)", "words_of": "(row)",
        "show_word": "(word)", "read_word": "(text)"},
}

CLASSES = {
    "things": {
        "Stretch": (
            "(name, *, kind, step=1, data=(), size=None, labels=(), holds=(), lines=((0, 0),))", ("__eq__", "__len__")),
        "Part": ("(name, *, stretches=(), told=(), weak=(), soft=())", ("__eq__",)),
        "Unit": ("(parts)", ("__eq__", "__len__")),
    },
}


class Interface(unittest.TestCase):
    def test_functions(self):
        for module_name, functions in FUNCTIONS.items():
            module = importlib.import_module(f"byteround.{module_name}")
            for name, signature in functions.items():
                function = getattr(module, name)
                self.assertTrue(inspect.isfunction(function), name)
                self.assertEqual(function.__module__, module.__name__)
                self.assertEqual(str(inspect.signature(function)), signature, name)

    def test_classes(self):
        for module_name, classes in CLASSES.items():
            module = importlib.import_module(f"byteround.{module_name}")
            for name, (signature, methods) in classes.items():
                thing = getattr(module, name)
                self.assertEqual(thing.__module__, module.__name__)
                self.assertEqual(str(inspect.signature(thing)), signature, name)
                for method in methods:
                    self.assertIn(method, vars(thing), (name, method))


if __name__ == "__main__":
    unittest.main()
