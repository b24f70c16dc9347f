import unittest

from lastingrun import limits


class LimitsTest(unittest.TestCase):
    def test_values(self):
        wanted = {
            "LIMIT": 1000000000000, "DEPTH": 20, "QUANTUM": 6, "PAGE": 8, "FAN": 4, "WIDTH": 24,
            "LOG_BLOCKS": 16,
        }
        for name, value in wanted.items():
            with self.subTest(name):
                self.assertEqual(getattr(limits, name), value)
                self.assertIs(type(getattr(limits, name)), int)


if __name__ == "__main__":
    unittest.main()
