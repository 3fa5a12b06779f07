"""[2]: the interface's names, arguments, defaults, and the files that define them."""

import importlib
import inspect
import unittest

FUNCTIONS = {
    "bytesrows": {
        "is_row": "(thing)", "show_hex": "(row)", "read_hex": "(text)", "bytes_of": "(number, *, many=2)",
        "number_of": "(row)", "long_of": "(number)", "long_at": "(row, *, at=0)", "sum_of": "(row)"},
    "words": {
        "is_word": "(thing)", "bytes_of_word": "(word)", "word_at": "(row, *, at=0)", "words_of": "(row)",
        "show_word": "(word)", "read_word": "(text)"},
    "machine": {"run": "(image, inputs=(), *, base=16, most=1000)"},
    "texts": {"need_text": "(text)"},
    "assembling": {
        "assemble": "(text)", "rounds": "(text)", "shows_rounds": "(text, thing)", "made_by": "(text)"},
    "images": {"placed": "(image, base)", "found_at": "(image, thing)"},
    "dumping": {"dump": "(unit, *, wide=16)"},
    "unitbytes": {
        "unit_bytes": "(unit, *, edition=None)", "moved": "(thing, edition)", "read_unit": "(thing)",
        "edition_of": "(thing)", "least_edition": "(unit)", "lowered": "(unit, edition)"},
    "shelves": {
        "shelf_bytes": "(units)", "read_shelf": "(thing)", "taken": "(units, entry, *, shelves, keep=())",
        "is_taken": "(units, entry, thing, *, shelves, keep=())", "laid": "(units, entry, *, shelves=(), keep=())"},
    "names": {"meaning": "(unit, name, *, part=None)"},
    "linking": {
        "join": "(units)", "link": "(units, entry, *, shelves=(), keep=())",
        "reached": "(units, entry, *, shelves=(), keep=())"},
    "linklooks": {
        "shows_reached": "(units, entry, thing, *, shelves=(), keep=())",
        "is_linked": "(unit, entry, thing, *, keep=())"},
    "apart": {"taken_apart": "(image)"},
    "matching": {"same_program": "(one, other)"},
    "imagebytes": {
        "image_bytes": "(image, *, edition=None)", "read_image": "(thing)", "least_image_edition": "(image)"},
    "stripping": {
        "stripped": "(image)", "with_notes": "(image, chart)", "chart_bytes": "(chart)", "read_chart": "(thing)"},
    "leads": {
        "leads": "(image, at)", "bytes_of_row": "(image, part, row)", "traced": "(unit, image, part, row)"},
    "matchlooks": {"shows_same": "(one, other, thing)"},
    "patches": {
        "patch_between": "(one, other)", "turned_back": "(patch)", "chained": "(one, other)", "merged": "(one, other)",
        "shifted": "(patch, over)", "fitted": "(patch, row)"},
    "carrying": {"patched": "(image, patch)", "carried": "(patch, image, other)"},
    "plainrun": {"play": "(texts, entry, inputs=(), *, most=1000)"},
    "benchtexts": {"bench_text": "(bench)", "read_bench": "(text)"},
}

CLASSES = {
    "things": {
        "Stretch": (
            "(name, *, kind, step=1, data=(), size=None, labels=(), holds=(), lines=((0, 0),))", ("__eq__", "__len__")),
        "Part": ("(name, *, stretches=(), told=(), weak=(), soft=())", ("__eq__",)),
        "Unit": ("(parts)", ("__eq__", "__len__")),
    },
    "machine": {
        "Machine": ("(image, inputs=(), *, base=16)", (
            "go_on", "next_place", "registers", "pile", "outputs", "outcome", "byte_at", "held_at", "tally")),
    },
    "images": {
        "Image": ("(data, stretches, holds, entry, *, notes=None)", ("__eq__", "__len__")),
    },
    "stripping": {"Chart": ("(total, notes)", ("__eq__",))},
    "patches": {"Patch": ("(length, spots=())", ("__eq__", "__len__"))},
    "plainrun": {
        "Plain": ("(texts, entry, inputs=())", (
            "go_on", "next_place", "registers", "pile", "outputs", "outcome", "byte_at", "held_at", "tally")),
    },
    "bench": {
        "Bench": ("()", (
            "do", "several", "undo", "redo", "remake", "remake_all", "names", "stale", "made_of", "makes", "kind_of", "thing_of",
            "deed_of", "number_of", "__eq__")),
    },
    "desk": {"Desk": ("()", ("say",))},
}

RUN_METHODS = {
    "go_on": "(self, *, many=1)", "next_place": "(self)", "registers": "(self)", "pile": "(self)", "outputs": "(self)",
    "outcome": "(self)", "byte_at": "(self, place)", "held_at": "(self, place)", "tally": "(self)"}

METHODS = {
    ("machine", "Machine"): RUN_METHODS,
    ("plainrun", "Plain"): RUN_METHODS,
    ("bench", "Bench"): {
        "do": "(self, deed)", "several": "(self, deeds)", "undo": "(self)", "redo": "(self)", "remake": "(self, name)",
        "remake_all": "(self)", "names": "(self)", "stale": "(self)", "made_of": "(self, name)", "makes": "(self, name)",
        "kind_of": "(self, name)", "thing_of": "(self, name)", "deed_of": "(self, name)", "number_of": "(self, name)"},
    ("desk", "Desk"): {"say": "(self, row)"},
}

VALUES = {"machine": {"PILE": 32, "LEAST_BASE": 16}, "dumping": {"WIDE": 16}, "linking": {"BIGGEST": 40000}}


class Interface(unittest.TestCase):
    def test_functions(self):
        for module_name, functions in FUNCTIONS.items():
            module = importlib.import_module(f"byteround.{module_name}")
            for name, signature in functions.items():
                function = getattr(module, name)
                self.assertTrue(inspect.isfunction(function), name)
                self.assertEqual(function.__module__, module.__name__)
                self.assertEqual(str(inspect.signature(function)), signature, name)

    def test_classes(self):
        for module_name, classes in CLASSES.items():
            module = importlib.import_module(f"byteround.{module_name}")
            for name, (signature, methods) in classes.items():
                thing = getattr(module, name)
                self.assertEqual(thing.__module__, module.__name__)
                self.assertEqual(str(inspect.signature(thing)), signature, name)
                for method in methods:
                    self.assertIn(method, vars(thing), (name, method))

    def test_methods(self):
        for (module_name, class_name), methods in METHODS.items():
            thing = getattr(importlib.import_module(f"byteround.{module_name}"), class_name)
            for name, signature in methods.items():
                self.assertEqual(str(inspect.signature(vars(thing)[name])), signature, name)

    def test_values(self):
        for module_name, values in VALUES.items():
            module = importlib.import_module(f"byteround.{module_name}")
            for name, worth in values.items():
                self.assertEqual(getattr(module, name), worth)
                self.assertIs(type(getattr(module, name)), int)


if __name__ == "__main__":
    unittest.main()
