"""The answers that README.md shows are the ones told."""

import pathlib
import re
import unittest

README = pathlib.Path(__file__).resolve().parent.parent / "README.md"


class Readme(unittest.TestCase):
    def test_shown_answers(self):
        code = re.search(r"```python\n(.*?)```", README.read_text(encoding="utf-8"), re.DOTALL).group(1)
        names = {}
        seen = 0
        for line in code.splitlines():
            asked, mark, answer = line.partition("  # ")
            if mark:
                self.assertEqual(repr(eval(asked.strip(), names)), answer.strip(), asked)
                seen += 1
            else:
                exec(line, names)
        self.assertGreater(seen, 15)


if __name__ == "__main__":
    unittest.main()
