"""The form of the package: its files, their size and signs, and where the interface's names are defined."""

import ast
import unittest
from pathlib import Path

PACKAGE = Path(__file__).resolve().parent.parent / "heldfloods"
FILES = sorted(PACKAGE.glob("*.py"))
INTERFACE = {
    "errors": ["HoldError", "BadPlace", "BadSize", "BadColour", "BadPixel", "BadPicture", "BadDeed", "BadProgram",
               "BadClaim", "BadClass", "Unlike", "TooMany", "NoDeed", "NoFlood", "NoClass", "Fails", "Gap", "BadText",
               "NoName", "NoRow"],
    "places": ["Place", "from_left", "from_right", "from_middle", "first_beyond"],
    "pictures": ["Picture"],
    "canvases": ["Canvas"],
    "boxes": ["Box"],
    "deeds": ["Deed", "Boxed", "Pointed", "Coloured", "Blocked", "Fill", "Frame", "Flood", "Copy", "Flip", "Swap",
              "Grow", "Again", "When"],
    "programs": ["Program"],
    "player": ["play", "frames", "regions_at"],
    "edges": ["edges"],
    "strips": ["Strips"],
    "claims": ["Claim", "ColourAt", "NoneLeft", "Covered", "Mirrored", "Held", "Both", "Either", "Not"],
    "classes": ["Sizes", "classes", "class_of", "pairs"],
    "judge": ["Verdict", "Yes", "No", "judge", "failing", "safe_from", "need"],
    "alike": ["alike", "parting", "within", "needless", "trimmed", "exchangeable", "commute", "settled"],
    "floods": ["leak", "Leak", "need_held", "reach", "reaches"],
    "walls": ["chosen", "fewest", "Walls"],
    "areas": ["Sum", "area_sum", "area_sums"],
    "lookers": ["is_cover", "shows_verdict", "shows_alike", "shows_within", "shows_least", "shows_leak",
                "shows_fewest"],
    "texts": ["program_text", "claim_text", "paper_text"],
    "reader": ["read_program", "read_claim", "read_paper"],
    "desk": ["Desk"],
}


class Layout(unittest.TestCase):
    def test_files_alone(self):
        others = [path.name for path in PACKAGE.iterdir() if path.suffix != ".py" and path.name != "__pycache__"]
        self.assertEqual(others, [])

    def test_sizes_and_signs(self):
        for path in FILES:
            lines = path.read_text(encoding="utf-8").split("\n")
            self.assertLessEqual(len(lines) - 1, 399, path)
            self.assertLessEqual(max(len(line) for line in lines), 120, path)
            self.assertTrue(all(" " <= sign <= "~" for line in lines for sign in line), path)

    def test_functions(self):
        for path in FILES:
            for node in ast.walk(ast.parse(path.read_text(encoding="utf-8"))):
                if isinstance(node, ast.FunctionDef):
                    self.assertLessEqual(node.end_lineno - node.lineno + 1, 40, (path, node.name))

    def test_imports(self):
        for path in FILES:
            for node in ast.walk(ast.parse(path.read_text(encoding="utf-8"))):
                self.assertNotIsInstance(node, ast.Import, path)
                if isinstance(node, ast.ImportFrom):
                    self.assertTrue(node.module.startswith("heldfloods."), (path, node.module))

    def test_interface_is_defined_where_it_is_listed(self):
        for name, wanted in INTERFACE.items():
            tree = ast.parse((PACKAGE / f"{name}.py").read_text(encoding="utf-8"))
            defined = [node.name for node in tree.body if isinstance(node, (ast.FunctionDef, ast.ClassDef))]
            self.assertEqual([thing for thing in wanted if thing not in defined], [], name)

    def test_attributes_with_the_name_of_a_property(self):
        assigned, bare = set(), {}
        for path in FILES:
            for node in ast.walk(ast.parse(path.read_text(encoding="utf-8"))):
                if isinstance(node, ast.Attribute) and isinstance(node.ctx, ast.Store):
                    assigned.add(node.attr)
                if isinstance(node, ast.ClassDef):
                    for name in properties(node) - setters(node):
                        bare.setdefault(name, []).append(node.name)
        self.assertEqual({name: bare[name] for name in bare if name in assigned}, {})

    def test_nothing_that_an_operator_makes_runs_a_setter(self):
        trees = [ast.parse(path.read_text(encoding="utf-8")) for path in FILES]
        called, names, first = by_name(trees), set(), []
        for tree in trees:
            for node in ast.walk(tree):
                if isinstance(node, ast.ClassDef):
                    names |= setters(node)
                    first += [inner for inner in node.body if isinstance(inner, ast.FunctionDef)
                              and (is_pure(inner.name) or inner.name in properties(node) - setters(node))]
        self.assertIn("width", names)
        seen, rest = [], list(first)
        while rest:
            node = rest.pop()
            if node not in seen:
                seen.append(node)
                self.assertEqual([inner.attr for inner in ast.walk(node) if isinstance(inner, ast.Attribute)
                                  and isinstance(inner.ctx, ast.Store) and inner.attr in names], [], node.name)
                for inner in ast.walk(node):
                    if isinstance(inner, ast.Call):
                        rest += called.get(getattr(inner.func, "id", getattr(inner.func, "attr", None)), [])
        self.assertGreater(len(seen), len(first))


def is_pure(name):
    """Whether a method with this name must change nothing."""
    in_place = name in ("__iadd__", "__imul__", "__ior__", "__iand__", "__ixor__", "__setitem__")
    return name.startswith("__") and not in_place and name not in ("__init__", "__call__", "__enter__", "__exit__")


def by_name(trees):
    """What may be called by each name: functions, methods, and the constructors of classes."""
    found = {}
    for tree in trees:
        for node in ast.walk(tree):
            if isinstance(node, ast.FunctionDef) and node.name != "__init__":
                found.setdefault(node.name, []).append(node)
            if isinstance(node, ast.ClassDef):
                found.setdefault(node.name, []).extend(
                    [inner for inner in node.body if isinstance(inner, ast.FunctionDef) and inner.name == "__init__"])
    return found


def properties(tree):
    """The names of the properties of a class."""
    return {node.name for node in tree.body if isinstance(node, ast.FunctionDef)
            and any(isinstance(sign, ast.Name) and sign.id == "property" for sign in node.decorator_list)}


def setters(tree):
    """The names of those that have a setter."""
    return {node.name for node in tree.body if isinstance(node, ast.FunctionDef)
            and any(isinstance(sign, ast.Attribute) and sign.attr == "setter" for sign in node.decorator_list)}
