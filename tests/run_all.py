"""Runs each test_*.py under the folders that are named, and closes with `N passed, N failed`.

Ends with 1 if a test fails, if a file cannot be imported, or if there is no test at all.
"""

import importlib.util
import os
import sys
import unittest

ROOT = os.path.dirname(os.path.dirname(os.path.abspath(__file__)))


class Tally(unittest.TextTestResult):
    """Counts the tests that pass; one with a failing part is none of them."""

    def __init__(self, *args, **kwargs):
        super().__init__(*args, **kwargs)
        self.passed = 0

    def addSuccess(self, test):
        super().addSuccess(test)
        self.passed += 1

    def addExpectedFailure(self, test, err):
        super().addExpectedFailure(test, err)
        self.passed += 1

    def failed(self):
        wrong = [test for test, _ in self.failures + self.errors] + self.unexpectedSuccesses
        return len({getattr(test, "test_case", test).id() for test in wrong})


def test_files(folder):
    """Return the paths of all test files in a folder and the folders within it."""
    found = []
    for place, _, names in os.walk(folder):
        found += [os.path.join(place, name) for name in names if name.startswith("test_") and name.endswith(".py")]
    return sorted(found)


def load(number, path):
    """Import a test file; its own name for it keeps files of one name in two folders apart."""
    folder, name = os.path.split(os.path.abspath(path))
    if folder not in sys.path:
        sys.path.append(folder)
    title = f"{name[:-3]}_{number}"
    spec = importlib.util.spec_from_file_location(title, path)
    module = importlib.util.module_from_spec(spec)
    sys.modules[title] = module
    spec.loader.exec_module(module)
    return unittest.defaultTestLoader.loadTestsFromModule(module)


def main(folders):
    sys.path.insert(0, ROOT)
    paths = [path for folder in folders for path in test_files(folder)]
    suite = unittest.TestSuite([load(number, path) for number, path in enumerate(paths)])
    result = unittest.TextTestRunner(stream=sys.stdout, resultclass=Tally, warnings="default").run(suite)
    closing = f"{result.passed} passed, {result.failed()} failed"
    if result.skipped:
        closing += f", {len(result.skipped)} skipped"
    print(closing, flush=True)
    return 0 if result.wasSuccessful() and result.passed > 0 else 1


if __name__ == "__main__":
    sys.exit(main(sys.argv[1:]))
