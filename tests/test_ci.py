"""The script .ci/run, tried on small projects that are made for it."""

import pathlib
import shutil
import subprocess
import tempfile
import unittest

SCRIPT = pathlib.Path(__file__).resolve().parent.parent / ".ci" / "run"

GOOD = """
import unittest
from dozehall.mark import MARK


class Good(unittest.TestCase):
    def test_mark(self):
        self.assertEqual(MARK, 7)
"""
BAD = GOOD.replace("7", "8")
NOT_PYTHON = "def ("


class Script(unittest.TestCase):
    def setUp(self):
        holder = tempfile.TemporaryDirectory()
        self.addCleanup(holder.cleanup)
        self.top = pathlib.Path(holder.name).resolve()
        self.write("main/dozehall/__init__.py", "")
        self.write("main/dozehall/mark.py", "MARK = 7\n")
        self.write("main/.ci/run", "")
        shutil.copy(SCRIPT, self.top / "main/.ci/run")
        self.write("main/tests/test_own.py", GOOD)
        self.write("shared/tests/README.md", "Tests.\n")

    def write(self, name, text):
        path = self.top / name
        path.parent.mkdir(parents=True, exist_ok=True)
        path.write_text(text)

    def passes(self):
        done = subprocess.run(
            ["bash", ".ci/run"], cwd=self.top / "main", stdin=subprocess.DEVNULL,
            stdout=subprocess.PIPE, stderr=subprocess.STDOUT, text=True,
        )
        self.told = done.stdout
        return done.returncode == 0

    def test_passes_with_no_shared_test(self):
        self.assertTrue(self.passes())
        self.assertIn("1 passed, 0 failed", self.told)

    def test_passes_with_no_shared_folder(self):
        shutil.rmtree(self.top / "shared")
        self.assertTrue(self.passes())

    def test_runs_shared_tests_that_pass(self):
        self.write("shared/tests/test_more.py", GOOD)
        self.assertTrue(self.passes())
        self.assertIn("2 passed, 0 failed", self.told)

    def test_fails_with_an_own_test(self):
        self.write("main/tests/test_zeal.py", BAD)
        self.assertFalse(self.passes())
        self.assertIn("1 passed, 1 failed", self.told)

    def test_fails_with_a_shared_test_wherever_it_stands_in_the_order(self):
        for name in ("test_a.py", "test_b.py", "test_c.py"):
            self.write("shared/tests/" + name, GOOD)
        for name in ("test_a.py", "test_b.py", "test_c.py"):
            with self.subTest(name=name):
                self.write("shared/tests/" + name, BAD)
                self.assertFalse(self.passes())
                self.assertIn("3 passed, 1 failed", self.told)
                self.write("shared/tests/" + name, GOOD)

    def test_fails_with_a_shared_test_that_has_the_name_of_an_own_one(self):
        self.write("shared/tests/test_own.py", BAD)
        self.assertFalse(self.passes())

    def test_fails_with_a_shared_test_in_a_folder_below(self):
        self.write("shared/tests/stage/test_deep.py", BAD)
        self.assertFalse(self.passes())

    def test_fails_with_a_file_that_cannot_be_read(self):
        self.write("shared/tests/test_torn.py", NOT_PYTHON)
        self.assertFalse(self.passes())

    def test_fails_with_a_module_that_is_not_there(self):
        self.write("shared/tests/test_far.py", "from dozehall.nowhere import NOTHING\n")
        self.assertFalse(self.passes())

    def test_fails_where_no_test_is_found_at_all(self):
        shutil.rmtree(self.top / "main/tests")
        self.assertFalse(self.passes())

    def test_leaves_nothing_behind_in_the_package(self):
        self.assertTrue(self.passes())
        names = sorted(path.name for path in (self.top / "main/dozehall").iterdir())
        self.assertEqual(names, ["__init__.py", "mark.py"])


if __name__ == "__main__":
    unittest.main()
