import unittest

from lastingrun.copying import as_tuples


class CopyingTest(unittest.TestCase):
    def test_lists_at_any_depth(self):
        self.assertEqual(as_tuples([1, ["a", [None, []], (2, [3])], ()]), (1, ("a", (None, ()), (2, (3,))), ()))
        self.assertEqual([as_tuples([]), as_tuples("ab"), as_tuples(5), as_tuples(None)], [(), "ab", 5, None])

    def test_the_argument_stays(self):
        tree = [1, [2, [3]], (4, [5])]
        as_tuples(tree)
        self.assertEqual(tree, [1, [2, [3]], (4, [5])])

    def test_deep(self):
        tree = []
        for _ in range(5000):
            tree = [tree, 1]
        found = as_tuples(tree)
        for _ in range(5000):
            self.assertEqual(found[1], 1)
            found = found[0]
        self.assertEqual(found, ())


if __name__ == "__main__":
    unittest.main()
