"""No clock, chance or file is used: the package draws from itself alone, and calls nothing that reaches outside."""

import ast
import pathlib
import unittest

PACKAGE = pathlib.Path(__file__).resolve().parent.parent / "squarewalk"
REACHING = ("open", "input", "print", "eval", "exec", "compile", "__import__", "id", "hash")


def rows_of(kind):
    for file in sorted(PACKAGE.rglob("*.py")):
        for row in ast.walk(ast.parse(file.read_text(encoding="utf-8"))):
            if isinstance(row, kind):
                yield file.name, row


class NothingOutside(unittest.TestCase):
    def test_the_package_is_there(self):
        self.assertTrue((PACKAGE / "__init__.py").is_file())

    def test_imports_are_the_packages_own(self):
        for name, row in rows_of(ast.Import):
            self.fail(f"{name}:{row.lineno}")
        for name, row in rows_of(ast.ImportFrom):
            self.assertEqual(row.level, 0, name)
            self.assertEqual(row.module.split(".")[0], "squarewalk", name)

    def test_no_name_that_reaches_outside(self):
        for name, row in rows_of(ast.Name):
            self.assertNotIn(row.id, REACHING, f"{name}:{row.lineno}")


if __name__ == "__main__":
    unittest.main()
