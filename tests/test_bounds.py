"""The bounds, each with its value."""

from forwardlists import bounds
from tests.cases import Case

BOUNDS = {
    "MAX_PLACES": 12, "MAX_STAYING": 7, "MAX_CLASS": 120, "MAX_TEXT": 400, "MAX_BITS": 40,
    "MAX_PAIRED": 4, "MAX_COUNTED": 1000000000000000000000000000000, "MAX_LEAF": 10, "MAX_PIECES": 40,
    "MAX_NESTED": 4, "MAX_EDITS": 40, "MAX_RUNGS": 67, "MAX_NAMES": 40, "MAX_ASKS": 40, "MAX_READ": 400,
}


class Bounds(Case):
    def test_each_bound_has_its_value(self):
        for name, wanted in BOUNDS.items():
            with self.subTest(name):
                self.exact(getattr(bounds, name), wanted)

    def test_there_is_no_other_bound(self):
        self.assertEqual([name for name in vars(bounds) if name.isupper()], list(BOUNDS))
