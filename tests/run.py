"""Runs every test of the project, and every test of the folder ../shared/tests beside it."""

import sys
import unittest
from pathlib import Path

ROOT = Path(__file__).resolve().parent.parent
SHARED = ROOT.parent / "shared" / "tests"


def suites():
    yield unittest.TestLoader().discover(str(ROOT / "tests"), top_level_dir=str(ROOT))
    if SHARED.is_dir() and any(SHARED.glob("test_*.py")):
        yield unittest.TestLoader().discover(str(SHARED), top_level_dir=str(SHARED))


def main():
    sys.path.insert(0, str(ROOT))
    ran = bad = 0
    for suite in suites():
        result = unittest.TextTestRunner().run(suite)
        ran += result.testsRun
        bad += len(result.failures) + len(result.errors) + len(result.unexpectedSuccesses)
    print(f"{max(ran - bad, 0)} passed, {bad} failed")
    return 1 if bad or not ran else 0


if __name__ == "__main__":
    sys.exit(main())
