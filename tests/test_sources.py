import ast
import pathlib
import unittest

PACKAGE = pathlib.Path(__file__).resolve().parent.parent / "laidwords"
REACHING_OUT = ("open", "input", "print", "exec", "eval", "compile", "__import__")


class Sources(unittest.TestCase):
    """No clock, chance or files: nothing is drawn from outside the package."""

    def nodes(self):
        paths = sorted(PACKAGE.rglob("*.py"))
        self.assertTrue(paths)
        return [node for path in paths for node in ast.walk(ast.parse(path.read_text(encoding="utf-8")))]

    def test_only_the_package_itself_is_imported(self):
        for node in self.nodes():
            self.assertNotIsInstance(node, ast.Import)
            if isinstance(node, ast.ImportFrom):
                self.assertEqual(node.level, 0)
                self.assertEqual(node.module.split(".")[0], "laidwords")

    def test_nothing_is_opened_or_printed(self):
        for node in self.nodes():
            if isinstance(node, ast.Name):
                self.assertNotIn(node.id, REACHING_OUT)


if __name__ == "__main__":
    unittest.main()
