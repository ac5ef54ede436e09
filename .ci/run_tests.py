"""Run the tests beside the package, and those under ../shared/tests where there are some."""

import os
import sys
import unittest

ROOT = os.path.dirname(os.path.dirname(os.path.abspath(__file__)))
SHARED = os.path.join(os.path.dirname(ROOT), "shared", "tests")


def shared_suites():
    """One suite for each folder with a file test_*.py; each file is imported by its own name."""
    suites = []
    for folder, inner, files in sorted(os.walk(SHARED)):
        if any(name.startswith("test_") and name.endswith(".py") for name in files):
            loader = unittest.TestLoader()
            sys.path.insert(0, folder)
            names = sorted(name[:-3] for name in files if name.startswith("test_") and name.endswith(".py"))
            for name in names:
                # Folders may have files of one name: each is imported anew.
                sys.modules.pop(name, None)
                suites.append(loader.loadTestsFromName(name))
    return suites


def main():
    sys.path.insert(0, ROOT)
    own = unittest.TestLoader().discover(os.path.join(ROOT, "tests"), top_level_dir=ROOT)
    result = unittest.TextTestRunner(stream=sys.stdout, verbosity=1).run(unittest.TestSuite([own] + shared_suites()))
    failed = len(result.failures) + len(result.errors) + len(result.unexpectedSuccesses)
    skipped = len(result.skipped)
    print(f"{result.testsRun - failed - skipped} passed, {failed} failed, {skipped} skipped")
    return 0 if result.wasSuccessful() and result.testsRun else 1


if __name__ == "__main__":
    sys.exit(main())
