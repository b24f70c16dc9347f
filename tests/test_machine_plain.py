"""All that the tests of the plain run look at, over machines."""

import importlib.util
import os
import unittest

from machines import Remade

FOLDER = os.path.dirname(os.path.abspath(__file__))


def over_machines(name):
    """The classes of tests of a module, in a copy of it whose runs are machines."""
    spec = importlib.util.spec_from_file_location(f"{name}_machine", os.path.join(FOLDER, f"{name}.py"))
    module = importlib.util.module_from_spec(spec)
    spec.loader.exec_module(module)
    module.Run = Remade
    found = {}
    for word, value in vars(module).items():
        if isinstance(value, type) and issubclass(value, unittest.TestCase) and word.endswith("Test"):
            found[f"{word}OverMachines_{name}"] = value
    return found


globals().update(over_machines("test_plain"))
globals().update(over_machines("test_picture"))
globals().update(over_machines("test_change"))
globals().update(over_machines("test_random_runs"))


if __name__ == "__main__":
    unittest.main()
