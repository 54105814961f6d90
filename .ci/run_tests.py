"""Run every test file of the project and of ../shared/tests, and count the tests.

Each folder gets a process of its own, because two folders may hold test files
of one and the same name.
"""

import os
import subprocess
import sys
import unittest
from pathlib import Path

ROOT = Path(__file__).resolve().parent.parent
SHARED = ROOT.parent / "shared" / "tests"


def test_folders(top):
    return sorted({path.parent for path in top.rglob("test_*.py")})


def failed_tests(result):
    unlucky = [test for test, _ in result.failures + result.errors] + list(result.unexpectedSuccesses)
    # Several parts of one test may fail; they still are one test.
    return {getattr(test, "test_case", test).id() for test in unlucky}


def run_here(folder):
    """Run the test files of one folder, and print the counts in the last row."""
    sys.path[:0] = [folder, str(ROOT)]
    names = sorted(path.stem for path in Path(folder).glob("test_*.py"))
    suite = unittest.defaultTestLoader.loadTestsFromNames(names)
    result = unittest.TextTestRunner(stream=sys.stdout).run(suite)
    failed = len(failed_tests(result))
    passed = max(0, result.testsRun - failed - len(result.skipped))
    print(f"{passed} {failed}", flush=True)


def run_folder(folder):
    """Run the tests of a folder in a new process; one that ends without counts has failed."""
    print(f"== {os.path.relpath(folder, ROOT)}", flush=True)
    command = [sys.executable, "-B", __file__, str(folder)]
    done = subprocess.run(command, cwd=ROOT, stdout=subprocess.PIPE, stderr=subprocess.STDOUT, text=True)
    *rows, last = done.stdout.splitlines() or [""]
    print("\n".join(rows), flush=True)
    try:
        passed, failed = map(int, last.split())
    except ValueError:
        print(last)
        return 0, 1
    return passed, max(failed, 1 if done.returncode else 0)


def main():
    own = test_folders(ROOT / "tests")
    shared = test_folders(SHARED) if SHARED.is_dir() else []
    passed = failed = 0
    for folder in own + shared:
        counts = run_folder(folder)
        passed += counts[0]
        failed += counts[1]
    if not own:
        print("the project has no tests")
        failed += 1
    print(f"{passed} passed, {failed} failed", flush=True)
    return 1 if failed else 0


if __name__ == "__main__":
    if len(sys.argv) == 2:
        run_here(sys.argv[1])
    else:
        sys.exit(main())
