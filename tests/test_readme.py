"""What README.md shows."""

import pathlib

from tests.cases import Case

README = pathlib.Path(__file__).resolve().parent.parent / "README.md"


class Readme(Case):
    def test_examples(self):
        self.holds(README.read_text())
