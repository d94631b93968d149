"""Runs the unittest files test_*.py in some folders and in all folders below them, and counts them.

Each folder has a process of its own: two folders may hold tests of the same name. With `--one FOLDER` the tests
right in one folder are run.
"""

import re
import subprocess
import sys
import unittest
from pathlib import Path


def run_one(folder):
    """Run the tests of one folder; the last line is how many passed, failed and were skipped."""
    loader = unittest.TestLoader()
    sys.path.insert(0, str(folder))
    names = [path.stem for path in sorted(Path(folder).glob("test_*.py"))]
    result = unittest.TextTestRunner(stream=sys.stdout, verbosity=1).run(loader.loadTestsFromNames(names))
    failed = len(result.failures) + len(result.errors) + len(result.unexpectedSuccesses)
    failed += len(loader.errors) if not failed else 0
    skipped = len(result.skipped)
    print(max(0, result.testsRun - failed - skipped), failed, skipped)


def run_all(folders):
    """Run the tests of all folders; the exit code."""
    counts = [0, 0, 0]
    for top in folders:
        for folder in sorted({path.parent for path in Path(top).rglob("test_*.py")}):
            print(f"{folder}:", flush=True)
            done = subprocess.run([sys.executable, __file__, "--one", str(folder)], stdout=subprocess.PIPE,
                                  stderr=subprocess.STDOUT, text=True, check=False)
            print(done.stdout, flush=True)
            found = re.search(r"^(\d+) (\d+) (\d+)\s*\Z", done.stdout, re.MULTILINE)
            # A run that broke off has no such line at its end, and counts as one that failed.
            told = [int(word) for word in found.groups()] if found and done.returncode == 0 else [0, 1, 0]
            counts = [count + more for count, more in zip(counts, told)]
    passed, failed, skipped = counts
    print(f"{passed} passed, {failed} failed, {skipped} skipped")
    return 1 if failed or not passed else 0


if __name__ == "__main__":
    if sys.argv[1] == "--one":
        run_one(sys.argv[2])
    else:
        sys.exit(run_all(sys.argv[1:]))
