"""The examples of README.md: each line with a comment has this result."""

import pathlib
import re
import unittest

TEXT = (pathlib.Path(__file__).resolve().parent.parent / "README.md").read_text(encoding="ascii")


class TestReadme(unittest.TestCase):
    def test_examples(self):
        names = {}
        checked = 0
        for block in re.findall(r"```python\n(.*?)```", TEXT, re.DOTALL):
            # A result may stand on a line of its own, below its call.
            block = re.sub(r"\)\n +# ", ")  # ", block)
            for line in block.split("\n"):
                call, mark, result = line.partition("  # ")
                if mark and not line.startswith(" "):
                    self.assertEqual(eval(call, names), eval(result, names), call)
                    checked += 1
                elif not line.startswith((" ", "try", "except")):
                    exec(line, names)
        self.assertEqual(checked, 67)


if __name__ == "__main__":
    unittest.main()
