"""Runs each test file in a Python of its own and says at the end how many tests ran.

The tests beside the project may have the names of its own tests; so no two files
are loaded into one run.
"""

import os
import re
import subprocess
import sys

ROOT = os.path.dirname(os.path.dirname(os.path.abspath(__file__)))
OWN_TESTS = os.path.join(ROOT, "tests")
SHARED_TESTS = os.path.join(os.path.dirname(ROOT), "shared", "tests")

# What unittest of newer Pythons returns if a file holds no test.
NO_TEST = 5


def test_files(folder):
    """The paths of all test files in a folder and the folders in it."""
    found = []
    for place, _, names in os.walk(folder):
        found.extend(os.path.join(place, name) for name in names if re.fullmatch(r"test_\w*\.py", name))
    return sorted(found)


def run_file(path):
    """Runs one file; returns whether nothing failed, and how many tests ran."""
    paths = [ROOT, os.environ.get("PYTHONPATH", "")]
    settings = dict(os.environ, PYTHONPATH=os.pathsep.join(filter(None, paths)), PYTHONDONTWRITEBYTECODE="1")
    name = os.path.basename(path)[: -len(".py")]
    done = subprocess.run(
        [sys.executable, "-m", "unittest", name],
        cwd=os.path.dirname(path),
        env=settings,
        stderr=subprocess.PIPE,
        text=True,
    )
    told = re.findall(r"^Ran (\d+) tests? in", done.stderr, re.MULTILINE)
    count = int(told[-1]) if told else 0
    passed = done.returncode == 0 or (done.returncode == NO_TEST and bool(told) and count == 0)
    if not passed:
        sys.stdout.write(done.stderr)
    return passed, count


def main():
    own = test_files(OWN_TESTS)
    failed = []
    total = 0
    for path in own + test_files(SHARED_TESTS):
        passed, count = run_file(path)
        if path in own and count == 0:
            passed = False
        total += count
        print("%s %s: %d tests" % ("ok  " if passed else "FAIL", os.path.relpath(path, ROOT), count), flush=True)
        if not passed:
            failed.append(path)
    if not own:
        print("FAIL: the project has no tests")
    for path in failed:
        print("failed: %s" % os.path.relpath(path, ROOT))
    print("%d tests ran" % total)
    return 1 if failed or not own else 0


if __name__ == "__main__":
    sys.exit(main())
