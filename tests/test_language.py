"""What LANGUAGE.md asks of the left side of each % in the package, since the package makes bytes."""

import ast
import unittest
from pathlib import Path

PACKAGE = Path(__file__).resolve().parent.parent / "ringdepth"


def is_plainly_a_number(node):
    """Whether this is int(..), len(..) or a written number."""
    if isinstance(node, ast.Call):
        return isinstance(node.func, ast.Name) and node.func.id in ("int", "len")
    return isinstance(node, ast.Constant) and type(node.value) is int


def unclear_rows(source):
    """The rows of this source in which some % or %= stands behind something else."""
    found = []
    for node in ast.walk(ast.parse(source)):
        if isinstance(node, ast.BinOp) and isinstance(node.op, ast.Mod) and not is_plainly_a_number(node.left):
            found.append(node.lineno)
        # What %= is put to is a name, an attribute or an item, never one of the three.
        if isinstance(node, ast.AugAssign) and isinstance(node.op, ast.Mod):
            found.append(node.lineno)
    return sorted(found)


class RemainderTest(unittest.TestCase):

    def test_the_package_keeps_the_rule(self):
        files = sorted(PACKAGE.glob("*.py"))
        self.assertIn("words.py", [file.name for file in files])
        for file in files:
            self.assertEqual(unclear_rows(file.read_text(encoding="utf-8")), [], file.name)

    def test_the_check_tells_the_rows(self):
        self.assertEqual(unclear_rows("a = int(n) % 3\nb = len(xs) % n\nc = 7 % n\nd = xs[-1 - int(n) % 2]\n"), [])
        for left in ["n", "xs[0]", "box.n", "(n + 1)", "f(n)", "box.len(n)", "'ab'", "b'ab'", "True", "int(n) * 2"]:
            self.assertEqual(unclear_rows(f"a = 1\nb = {left} % 3\n"), [2], left)
        self.assertEqual(unclear_rows("n = 5\nn %= 3\nm = xs[-1 - n % len(xs)]\n"), [2, 3])


if __name__ == "__main__":
    unittest.main()
