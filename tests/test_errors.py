"""[3]: the refusals, their classes and fields."""

import inspect
import unittest

from byteround import errors
from tests.anything import Number, Row, Rows, Text, anything, is_exact

TOLD = {
    ValueError: {
        "NoHex": ("at",), "NoBytes": ("at",), "NoWord": ("at",), "NoNumber": ("number",), "NoUnit": ("field",),
        "Wrong": ("row", "word"), "NoImage": ("part",), "NoPatch": ("spot",), "NoText": ("row",)},
    ArithmeticError: {"NoBase": ("base",)},
    NotImplementedError: {"NoEdition": ("edition", "what"), "NoDeed": ("at",)},
    KeyError: {"Untold": ("name", "part"), "NoThing": ("name",)},
    LookupError: {"NoEntry": ("name",), "OtherImage": ("total",), "OtherProgram": ("way",)},
    TypeError: {"NotCode": ("name", "part"), "OtherKind": ("name",)},
    IndexError: {"Beyond": ("name", "part"), "NoPlace": ("at",), "NothingDone": ()},
    OverflowError: {"TooGreat": ("size",)},
    RuntimeError: {
        "Twice": ("name", "one", "other"), "Misfit": ("at",), "Clash": ("at",), "Uncarried": ("at",),
        "Circle": ("name",)},
    Exception: {"NoAsk": ("row",)},
}


def refusals():
    """Each refusal's class, the class it stands under, its fields."""
    return [
        (getattr(errors, name), base, fields)
        for base, classes in TOLD.items() for name, fields in classes.items()]


class Refusals(unittest.TestCase):
    def test_all_of_the_interface_and_no_others(self):
        own = [
            name for name, thing in vars(errors).items()
            if inspect.isclass(thing) and thing.__module__ == "byteround.errors"]
        self.assertEqual(sorted(own), sorted(name for classes in TOLD.values() for name in classes))
        self.assertEqual(len(own), 29)

    def test_each_is_straight_under_its_class(self):
        for refusal, base, _ in refusals():
            self.assertEqual(refusal.__bases__, (base,), refusal)

    def test_arguments_by_places_and_by_names(self):
        for refusal, _, fields in refusals():
            self.assertEqual(list(inspect.signature(refusal).parameters), list(fields))
            worths = [f"worth {k}" for k in range(len(fields))]
            by_place = refusal(*worths)
            by_name = refusal(**dict(reversed(list(zip(fields, worths)))))
            for field, worth in zip(fields, worths):
                self.assertEqual(getattr(by_place, field), worth)
                self.assertEqual(getattr(by_name, field), worth)

    def test_fields_of_anything(self):
        for refusal, _, fields in refusals():
            for thing in anything():
                made = refusal(*[thing] * len(fields))
                for field in fields:
                    self.assertEqual(getattr(made, field), thing)
                    self.assertIs(type(getattr(made, field)), type(thing))
                str(made)

    def test_raised_and_caught(self):
        for refusal, base, fields in refusals():
            with self.assertRaises(base):
                raise refusal(*[1] * len(fields))

    def test_what_is_kept_is_a_copy(self):
        for refusal, _, fields in refusals():
            for field in fields:
                inner = [1]
                handed = {"a": [inner, (inner,)]}
                made = refusal(**{**dict.fromkeys(fields, 1), field: handed})
                inner.append(2)
                handed["b"] = 3
                self.assertEqual(getattr(made, field), {"a": [[1], ([1],)]})
                getattr(made, field)["a"].append(4)
                self.assertEqual(handed, {"a": [[1, 2], ([1, 2],)], "b": 3})

    def test_fields_have_exactly_the_builtin_kinds(self):
        made = errors.Twice(Text("a"), Row((Number(5), Text("b"))), Rows([Number(6)]))
        self.assertTrue(is_exact([made.name, made.one, made.other]))
        self.assertEqual((made.name, made.one, made.other), ("a", (5, "b"), [6]))


class Equal(unittest.TestCase):
    def test_equal_where_all_fields_are(self):
        for refusal, _, fields in refusals():
            for one, other in zip(anything(), anything()):
                self.assertTrue(refusal(*[one] * len(fields)) == refusal(*[other] * len(fields)), (refusal, one))

    def test_unequal_where_one_field_is_another(self):
        for refusal, _, fields in refusals():
            for k in range(len(fields)):
                worths = [1] * len(fields)
                worths[k] = 2
                self.assertFalse(refusal(*[1] * len(fields)) == refusal(*worths))
                self.assertTrue(refusal(*[1] * len(fields)) != refusal(*worths))

    def test_unequal_where_kinds_are(self):
        for one, other in ((1, True), (0, False), ((1,), [1]), ((1,), (True,)), ({1: 2}, {True: 2}), ("", None),
                           ({1: 2}, {1: 2, 3: 4}), ({1: 1}, {1: True}), ([1], [1, 1]), ([], {}), ((), None), ([1], [True]),
                           (True, False), ([(0,)], [(False,)])):
            self.assertFalse(errors.NoAsk(one) == errors.NoAsk(other), (one, other))
            self.assertFalse(errors.NoAsk(other) == errors.NoAsk(one), (one, other))

    def test_equal_to_nothing_else(self):
        for refusal, _, fields in refusals():
            made = refusal(*[1] * len(fields))
            for thing in anything() + [other(*[1] * len(more)) for other, _, more in refusals()]:
                if not isinstance(thing, refusal):
                    self.assertFalse(made == thing, (refusal, thing))
                    self.assertFalse(thing == made, (refusal, thing))


if __name__ == "__main__":
    unittest.main()
