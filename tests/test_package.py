"""The package's files: what they may import and call, and their sizes and characters."""

import ast
import builtins
import pathlib
import unittest

PACKAGE = pathlib.Path(__file__).resolve().parent.parent / "wholecut"
FILES = sorted(PACKAGE.rglob("*.py"))

# What the package may take from Python, by LANGUAGE.md: no clock, chance, files or network among it.
LIBRARY = {
    "heapq": {"heappush", "heappop", "heapify", "heapreplace", "heappushpop"},
    "math": {"gcd", "lcm", "isqrt", "comb", "perm", "factorial"},
    "itertools": {"product", "combinations", "permutations", "chain", "accumulate", "pairwise", "islice",
                  "zip_longest"},
    "collections": {"defaultdict", "deque"},
}
BUILTINS = set("""len range enumerate zip map min max sum abs sorted reversed int str bool bytes list tuple dict set
    isinstance ord repr any all divmod pow iter next getattr hasattr setattr type Exception ValueError TypeError
    KeyError IndexError LookupError ZeroDivisionError ArithmeticError OverflowError RuntimeError
    NotImplementedError AttributeError StopIteration NotImplemented super property staticmethod classmethod""".split())


def nodes(path, *kinds):
    return [node for node in ast.walk(ast.parse(path.read_text("ascii"))) if isinstance(node, kinds)]


class PackageTest(unittest.TestCase):
    def test_only_plain_files(self):
        self.assertIn(PACKAGE / "__init__.py", FILES)
        others = [path for path in PACKAGE.rglob("*") if path not in FILES and "__pycache__" not in path.parts]
        self.assertEqual(others, [])

    def test_imports(self):
        for path in FILES:
            self.assertEqual(nodes(path, ast.Import), [], path)
            for node in nodes(path, ast.ImportFrom):
                names = {alias.name for alias in node.names}
                self.assertEqual(node.level, 0, path)
                self.assertTrue(node.module.startswith("wholecut.") or names <= LIBRARY.get(node.module, set()), path)

    def test_builtins(self):
        for path in FILES:
            for node in nodes(path, ast.Name):
                self.assertTrue(node.id in BUILTINS or not hasattr(builtins, node.id), (path, node.id))

    def test_no_floats_and_no_division(self):
        for path in FILES:
            self.assertEqual(nodes(path, ast.Div), [], path)
            self.assertFalse([node for node in nodes(path, ast.Constant) if isinstance(node.value, float)], path)

    def test_sizes_and_characters(self):
        for path in FILES:
            text = path.read_text("ascii")
            lines = text.split("\n")
            self.assertLessEqual(len(lines), 400, path)
            self.assertLessEqual(max(len(line) for line in lines), 120, path)
            self.assertTrue(all(sign == "\n" or " " <= sign <= "~" for sign in text), path)
            for node in nodes(path, ast.FunctionDef):
                self.assertLessEqual(node.end_lineno - node.lineno + 1, 40, (path, node.name))


if __name__ == "__main__":
    unittest.main()
