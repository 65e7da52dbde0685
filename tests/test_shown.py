"""All examples that the interface shows, run in their order in one go."""

import os
import unittest

from runnets import errors
from tests.samples import caught

SHOWN = os.path.join(os.path.dirname(os.path.abspath(__file__)), "shown.txt")
PROMPT = ">>> "


def examples():
    """The lines of input, each with what is shown for it."""
    found = []
    with open(SHOWN, encoding="utf-8") as file:
        for line in file.read().split("\n"):
            if line.startswith(PROMPT):
                found.append((line[len(PROMPT):], []))
            elif line:
                found[-1][1].append(line)
    return [(told, "\n".join(due)) for told, due in found]


class Shown(unittest.TestCase):
    def test_in_one_go(self):
        names, met = {}, []
        for told, due in examples():
            if due == "":
                exec(told, names)
            elif due.startswith("raises "):
                error = caught(eval, told, names)
                like = eval(due[len("raises "):], dict(vars(errors)))
                self.assertEqual((type(error), vars(error)), (type(like), vars(like)), told)
                met.append("raises")
            else:
                self.assertEqual(repr(eval(told, names)), due, told)
                met.append("shows")
        self.assertEqual((met.count("shows"), met.count("raises")), (28, 1))

    def test_modules(self):
        modules = [told.split()[1] for told, _ in examples() if told.startswith("from ")]
        self.assertEqual(modules, ["runnets." + name for name in """nets kinds rights tables marked carries faults bounds least
                                   ladders certificates checker""".split()])


if __name__ == "__main__":
    unittest.main()
