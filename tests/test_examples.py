"""Each example of the document, as it stands in examples.txt."""

import pathlib
import unittest

EXAMPLES = pathlib.Path(__file__).resolve().parent / "examples.txt"
PROMPT = ">>> "


def sessions():
    """Return the rows of each session, the prompts taken off, and its last line."""
    found = []
    for part in EXAMPLES.read_text("utf-8").strip().split("\n\n"):
        *rows, last = part.split("\n")
        assert all(row.startswith(PROMPT) for row in rows), part
        found.append(([row[len(PROMPT):] for row in rows], last))
    return found


def shown(rows):
    """Return the repr of the last expression, or the error that it raises."""
    names = {}
    for row in rows[:-1]:
        exec(row, names)
    try:
        return repr(eval(rows[-1], names))
    except (ValueError, LookupError) as error:
        fields = ", ".join([repr(value) for value in vars(error).values()])
        return f"raises {type(error).__name__}({fields})"


class ExamplesTest(unittest.TestCase):
    def test_each_one(self):
        for rows, last in sessions():
            self.assertEqual(shown(rows), last, rows)

    def test_none_is_missing(self):
        self.assertEqual(len(sessions()), 47)
        modules = {row.split(" ")[1] for rows, _ in sessions() for row in rows if "import" in row}
        self.assertEqual(modules, {"savelines." + name for name in (
            "histories", "lines", "zigzags", "falling", "causes", "rules", "recorders", "texts",
            "consoles")})


if __name__ == "__main__":
    unittest.main()
