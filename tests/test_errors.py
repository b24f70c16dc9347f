import inspect
import unittest

from lastingrun import errors

ERRORS = (
    ("BadText", ValueError, ("at",)),
    ("Unsound", ValueError, ("faults",)),
    ("Gap", ValueError, ("number",)),
    ("BadLine", ValueError, ("number",)),
    ("NoLoose", ValueError, ("number",)),
    ("NoCut", ValueError, ("block",)),
    ("NoHistory", ValueError, ("index",)),
    ("NoObject", LookupError, ("ref",)),
    ("NoPlace", LookupError, ("place",)),
    ("NoBlock", LookupError, ("place",)),
    ("NoOutput", LookupError, ("number",)),
    ("Gone", LookupError, ("number",)),
    ("Refused", RuntimeError, ("task", "depth", "word")),
    ("Busy", RuntimeError, ()),
    ("Idle", RuntimeError, ()),
    ("Stopped", RuntimeError, ()),
    ("NoRoot", RuntimeError, ()),
    ("Full", OverflowError, ("count",)),
)

VALUES = {
    "faults": [("main", 0, "unknown")],
    "ref": "@7",
    "word": "gone",
}


def worth(name, index):
    return VALUES.get(name, 5 + index)


class ErrorsTest(unittest.TestCase):
    def test_all_are_there(self):
        classes = [name for name, value in vars(errors).items() if inspect.isclass(value)]
        self.assertEqual(sorted(classes), sorted(name for name, _, _ in ERRORS))
        self.assertEqual(len(ERRORS), 18)

    def test_bases(self):
        for name, base, _ in ERRORS:
            with self.subTest(name):
                self.assertEqual(getattr(errors, name).__bases__, (base,))

    def test_defined_here(self):
        for name, _, _ in ERRORS:
            self.assertEqual(getattr(errors, name).__module__, "lastingrun.errors")

    def test_by_position(self):
        for name, _, fields in ERRORS:
            values = [worth(field, index) for index, field in enumerate(fields)]
            with self.subTest(name):
                error = getattr(errors, name)(*values)
                self.assertEqual([getattr(error, field) for field in fields], values)

    def test_by_name(self):
        for name, _, fields in ERRORS:
            values = {field: worth(field, index) for index, field in enumerate(fields)}
            with self.subTest(name):
                error = getattr(errors, name)(**values)
                self.assertEqual({field: getattr(error, field) for field in fields}, values)

    def test_by_name_in_another_order(self):
        error = errors.Refused(word="unset", depth=2, task=1)
        self.assertEqual((error.task, error.depth, error.word), (1, 2, "unset"))

    def test_raised_and_caught(self):
        for name, base, fields in ERRORS:
            values = [worth(field, index) for index, field in enumerate(fields)]
            with self.subTest(name), self.assertRaises(base):
                raise getattr(errors, name)(*values)

    def test_values_are_wanted(self):
        for name, _, fields in ERRORS:
            with self.subTest(name), self.assertRaises(TypeError):
                getattr(errors, name)(*[0] * (len(fields) + 1))
            if fields:
                with self.subTest(name), self.assertRaises(TypeError):
                    getattr(errors, name)()

    def test_faults_are_copied(self):
        given = [("main", 0, "unknown")]
        error = errors.Unsound(given)
        given.append(("main", 1, "many"))
        self.assertEqual(error.faults, [("main", 0, "unknown")])

    def test_faults_as_a_tuple(self):
        self.assertEqual(list(errors.Unsound((("", -1, "main"),)).faults), [("", -1, "main")])


if __name__ == "__main__":
    unittest.main()
