"""The rows of README.md: each tells what it says behind its remark."""

import re
import unittest
from pathlib import Path

README = Path(__file__).resolve().parent.parent / "README.md"
TOLD = re.compile(r"(?P<row>.*?) +# (?P<told>.*)")


class Readme(unittest.TestCase):
    def test_each_row(self):
        names, many = {}, 0
        for block in re.findall(r"```python\n(.*?)```", README.read_text(encoding="utf-8"), re.DOTALL):
            for line in block.splitlines():
                found = TOLD.fullmatch(line)
                if found is None or " = " in line:
                    exec(line, names)
                else:
                    many += 1
                    told = repr(eval(found["row"], names))
                    # Behind what is told some words may stand.
                    self.assertRegex(found["told"], r"\A" + re.escape(told) + r"(\Z|[:,] )", line)
        self.assertGreater(many, 50)


if __name__ == "__main__":
    unittest.main()
