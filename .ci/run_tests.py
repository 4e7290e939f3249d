"""Runs every test of the project and of ../shared/tests; fails if one fails, or if none ran."""

import os
import re
import subprocess
import sys

ROOT = os.path.dirname(os.path.dirname(os.path.abspath(__file__)))
OWN = os.path.join(ROOT, "tests")
SHARED = os.path.join(os.path.dirname(ROOT), "shared", "tests")


def test_files(folder):
    found = []
    for place, _, names in os.walk(folder):
        found.extend(os.path.join(place, name) for name in names if re.fullmatch(r"test_.*\.py", name))
    return sorted(found)


def run(path):
    """Runs the tests of one file; tells how many ran, how many of them failed, and how many were skipped."""
    settings = dict(os.environ, PYTHONDONTWRITEBYTECODE="1", PYTHONPATH=ROOT)
    done = subprocess.run(
        [sys.executable, "-m", "unittest", "discover", "-s", os.path.dirname(path), "-p", os.path.basename(path)],
        cwd=ROOT, env=settings, stdout=subprocess.PIPE, stderr=subprocess.STDOUT, text=True,
    )
    print(os.path.relpath(path, ROOT), done.stdout, sep="\n", flush=True)
    many = sum(int(number) for number in re.findall(r"^Ran (\d+) tests? in ", done.stdout, re.MULTILINE))
    skipped = sum(int(number) for number in re.findall(r"^[A-Z].*\bskipped=(\d+)", done.stdout, re.MULTILINE))
    told = r"(?:failures|errors|unexpected successes)=(\d+)"
    last = re.findall(r"^FAILED \(.*\)$", done.stdout, re.MULTILINE)
    failed = sum(int(number) for line in last for number in re.findall(told, line))
    # A file that cannot be run, or that holds no test, counts as a failure, too.
    if failed == 0 and (done.returncode != 0 or many == 0):
        failed = 1
    return many, failed, skipped


def main():
    paths = test_files(OWN) + test_files(SHARED)
    results = [(path, run(path)) for path in paths]
    ran = sum(many for _, (many, _, _) in results)
    failed = sum(many for _, (_, many, _) in results)
    skipped = sum(many for _, (_, _, many) in results)
    for path, (_, many, _) in results:
        if many:
            print(f"failed in {os.path.relpath(path, ROOT)}: {many}")
    print(f"{ran} tests ran in {len(paths)} files")
    print(f"{max(ran - failed - skipped, 0)} passed, {failed} failed, {skipped} skipped")
    sys.exit(1 if failed or ran == 0 else 0)


if __name__ == "__main__":
    main()
