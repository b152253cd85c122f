"""What README.md shows holds."""

import pathlib
import re
import unittest

README = pathlib.Path(__file__).parent.parent / "README.md"


class Readme(unittest.TestCase):
    def test_examples(self):
        blocks = re.findall(r"```python\n(.*?)```", README.read_text(encoding="utf-8"), re.DOTALL)
        self.assertGreater(len(blocks), 0)
        exec("\n".join(blocks), {})


if __name__ == "__main__":
    unittest.main()
