"""Runs each test file in a process of its own; fails if a test fails, or if none was run."""

import os
import re
import subprocess
import sys
from concurrent.futures import ThreadPoolExecutor
from pathlib import Path

ROOT = Path(__file__).resolve().parent.parent
SHARED = ROOT.parent / "shared" / "tests"
SUPPORTED = ("3.11", "3.13")
NO_TESTS = 5  # how unittest ends from Python 3.12 on if a file holds no test


def version_of(python):
    """The version of a Python, or None if it does not run."""
    words = [python, "-c", "import sys; print('%d.%d' % sys.version_info[:2])"]
    try:
        told = subprocess.run(words, capture_output=True, text=True, timeout=60)
    except OSError:
        return None
    return told.stdout.strip() if told.returncode == 0 else None


def pythons():
    """The Python that runs this, and those of the supported versions that are here, one of each version."""
    found = {"%d.%d" % sys.version_info[:2]: sys.executable}
    for version in SUPPORTED:
        places = sorted(Path.home().glob(f".pyenv/versions/{version}.*/bin/python3"))
        for python in [f"python{version}", *map(str, places)]:
            if version not in found and version_of(python) == version:
                found[version] = python
    return found


def test_files():
    """The test files of the project and of the shared folder."""
    found = sorted((ROOT / "tests").rglob("test_*.py"))
    if SHARED.is_dir():
        found += sorted(SHARED.rglob("test_*.py"))
    return found


def run(job):
    """Run one file; tell its line for the log, how many tests were run, how many failed, and what it printed."""
    version, python, path = job
    words = [python, "-m", "unittest", path.stem]
    place = dict(os.environ, PYTHONPATH=str(ROOT))
    told = subprocess.run(words, cwd=path.parent, env=place, capture_output=True, text=True)
    printed = told.stdout + told.stderr
    ran = sum(int(n) for n in re.findall(r"^Ran (\d+) tests?\b", printed, re.MULTILINE))
    closing = re.findall(r"^FAILED \((.*)\)$", printed, re.MULTILINE)
    failed = sum(int(n) for line in closing for n in re.findall(r"(?:failures|errors|successes)=(\d+)", line))
    if told.returncode not in (0, NO_TESTS) or (told.returncode == NO_TESTS and ran):
        failed = max(failed, 1)
    line = f"python {version}: {path}: ran {ran}, failed {failed}"
    return line, ran, failed, printed


def main():
    """Run all files with all Pythons; tell whether all is well."""
    jobs = [(version, python, path) for version, python in pythons().items() for path in test_files()]
    all_ran = all_failed = 0
    with ThreadPoolExecutor(max_workers=min(4, os.cpu_count() or 1)) as pool:
        for line, ran, failed, printed in pool.map(run, jobs):
            print(line, flush=True)
            if failed:
                print(printed, flush=True)
            all_ran += ran
            all_failed += failed
    if all_ran == 0:
        print("no test was run")
    print(f"{max(all_ran - all_failed, 0)} passed, {all_failed} failed")
    return 0 if all_ran > 0 and all_failed == 0 else 1


if __name__ == "__main__":
    sys.exit(main())
