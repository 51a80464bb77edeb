"""The examples in README.md run, and print what stands behind them."""

import contextlib
import io
import pathlib
import re
import unittest

README = pathlib.Path(__file__).resolve().parent.parent / "README.md"


class ReadmeTest(unittest.TestCase):
    def test_examples(self):
        rows = "\n".join(re.findall(r"```python\n(.*?)```", README.read_text(), re.S))
        printed = io.StringIO()
        with contextlib.redirect_stdout(printed):
            exec(compile(rows, "README.md", "exec"), {})
        told = printed.getvalue()
        for part in re.findall(r"^print\(.*\) +# (.*)$", rows, re.M):
            # What follows a colon or a comma and words explains.
            expected = re.split(r": [a-z]|, and |\.\. ", part)[0]
            self.assertIn(expected, told)
