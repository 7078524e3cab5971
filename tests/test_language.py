"""Some rules of the language that the package is written in, as far as a few lines can tell."""

import ast
import pathlib
import re
import unittest

PACKAGE = pathlib.Path(__file__).resolve().parent.parent / "savelines"
WORDS = re.compile(
    r"\b(type|typing|typing_extensions|enum|Enum|IntEnum|StrEnum|Flag|IntFlag|Generic|Protocol|ABC"
    r"|ABCMeta|namedtuple|NamedTuple|TypedDict|TYPE_CHECKING|abstractmethod)\b"
    r"|dataclass|overload|contextmanager")
NAMED = (ast.FunctionDef, ast.ClassDef)


class LanguageTest(unittest.TestCase):
    def setUp(self):
        self.texts = {path.name: path.read_text("utf-8") for path in sorted(PACKAGE.glob("*.py"))}
        self.nodes = [
            (name, node) for name, text in self.texts.items() for node in ast.walk(ast.parse(text))]

    def test_files(self):
        self.assertIn("__init__.py", self.texts)
        others = [path.name for path in PACKAGE.iterdir() if path.name not in self.texts]
        self.assertIn(others, ([], ["__pycache__"]))

    def test_sizes(self):
        for name, text in self.texts.items():
            lines = text.split("\n")
            self.assertLess(len(lines), 400, name)
            self.assertLessEqual(max(len(line) for line in lines), 120, name)
        for name, node in self.nodes:
            if isinstance(node, ast.FunctionDef):
                self.assertLess(node.end_lineno - node.lineno, 40, (name, node.name))

    def test_characters_and_words(self):
        for name, text in self.texts.items():
            self.assertRegex(text, r"\A[ -~\n]*\Z", name)
            self.assertIsNone(WORDS.search(text), name)

    def test_strings(self):
        for name, node in self.nodes:
            if isinstance(node, ast.Constant) and isinstance(node.value, str):
                self.assertNotIn("%", node.value, (name, node.lineno))

    def test_imports(self):
        for name, node in self.nodes:
            self.assertNotIsInstance(node, ast.Import, name)
            if isinstance(node, ast.ImportFrom):
                self.assertRegex(node.module, r"\Asavelines\.\w+\Z", name)

    def test_names(self):
        for name, node in self.nodes:
            if isinstance(node, NAMED) and not node.name.endswith("__"):
                self.assertFalse(node.name.startswith("_"), (name, node.name))
            if isinstance(node, ast.Name):
                self.assertFalse(node.id.startswith("_"), (name, node.id))

    def test_no_method_has_the_name_of_an_attribute(self):
        methods = [
            child.name for name, node in self.nodes if isinstance(node, ast.ClassDef)
            for child in node.body if isinstance(child, ast.FunctionDef)]
        assigned = [
            node.attr for name, node in self.nodes
            if isinstance(node, ast.Attribute) and isinstance(node.ctx, ast.Store)]
        # Only the property that can be assigned is both.
        self.assertLessEqual(set(methods) & set(assigned), {"failed"})
        # A set is told to add something, so no object of the package may be.
        self.assertFalse({"add", "discard"} & set(methods + assigned))

    def test_lists_instead_of_generator_expressions(self):
        for name, node in self.nodes:
            self.assertNotIsInstance(node, ast.GeneratorExp, name)

    def test_only_own_errors_are_caught(self):
        own = [node.name for name, node in self.nodes
               if name == "errors.py" and isinstance(node, ast.ClassDef)]
        for name, node in self.nodes:
            if isinstance(node, ast.ExceptHandler):
                caught = node.type.elts if isinstance(node.type, ast.Tuple) else [node.type]
                for kind in caught:
                    self.assertIn(kind.id, own, (name, node.lineno))

    def test_is_only_beside_none_and_bools(self):
        for name, node in self.nodes:
            if isinstance(node, ast.Compare):
                for sign, other in zip(node.ops, node.comparators):
                    if isinstance(sign, (ast.Is, ast.IsNot)):
                        self.assertIsInstance(other, ast.Constant, (name, node.lineno))
                        self.assertIn(repr(other.value), ("None", "True", "False"))


if __name__ == "__main__":
    unittest.main()
