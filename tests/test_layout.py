"""The form of the package: its files, their size and signs, and where the interface's names are defined."""

import ast
import unittest
from pathlib import Path

PACKAGE = Path(__file__).resolve().parent.parent / "heldfloods"
FILES = sorted(PACKAGE.glob("*.py"))
INTERFACE = {
    "errors": ["HoldError", "BadPlace", "BadSize", "BadColour", "BadPixel", "BadPicture", "BadDeed", "BadProgram",
               "BadClaim", "BadClass", "Unlike", "TooMany", "NoDeed", "NoFlood", "NoClass", "Fails", "Gap", "BadText",
               "NoName", "NoRow"],
    "places": ["Place", "from_left", "from_right", "from_middle", "first_beyond"],
    "pictures": ["Picture"],
    "canvases": ["Canvas"],
    "boxes": ["Box"],
    "deeds": ["Deed", "Boxed", "Pointed", "Coloured", "Blocked", "Fill", "Frame", "Flood", "Copy", "Flip", "Swap",
              "Grow", "Again", "When"],
    "programs": ["Program"],
}


class Layout(unittest.TestCase):
    def test_files_alone(self):
        others = [path.name for path in PACKAGE.iterdir() if path.suffix != ".py" and path.name != "__pycache__"]
        self.assertEqual(others, [])

    def test_sizes_and_signs(self):
        for path in FILES:
            lines = path.read_text(encoding="utf-8").split("\n")
            self.assertLessEqual(len(lines) - 1, 399, path)
            self.assertLessEqual(max(len(line) for line in lines), 120, path)
            self.assertTrue(all(" " <= sign <= "~" for line in lines for sign in line), path)

    def test_functions(self):
        for path in FILES:
            for node in ast.walk(ast.parse(path.read_text(encoding="utf-8"))):
                if isinstance(node, ast.FunctionDef):
                    self.assertLessEqual(node.end_lineno - node.lineno + 1, 40, (path, node.name))

    def test_imports(self):
        for path in FILES:
            for node in ast.walk(ast.parse(path.read_text(encoding="utf-8"))):
                self.assertNotIsInstance(node, ast.Import, path)
                if isinstance(node, ast.ImportFrom):
                    self.assertTrue(node.module.startswith("heldfloods."), (path, node.module))

    def test_interface_is_defined_where_it_is_listed(self):
        for name, wanted in INTERFACE.items():
            tree = ast.parse((PACKAGE / f"{name}.py").read_text(encoding="utf-8"))
            defined = [node.name for node in tree.body if isinstance(node, (ast.FunctionDef, ast.ClassDef))]
            self.assertEqual([thing for thing in wanted if thing not in defined], [], name)
