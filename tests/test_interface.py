"""Everything that the document's interface lists is there under its name, with its arguments."""

import importlib
import inspect
import os
import subprocess
import sys
import unittest

FUNCTIONS = {
    "rows": ["is_row(thing)", "trimmed(row)", "mirrored(row)", "joined(one, other)"],
    "rooms": ["rooms_of(row, *, first=(1, 1))", "row_of(rooms, *, wall=0)"],
    "waves": ["met(pane, a, b)"],
    "echoes": [
        "echo(row, many)", "heard_of(row, cries, many)", "echoes_of(cries, heard)", "through(row, many, *, side='left')",
    ],
    "finding": ["found_back(echoes)", "beginning(echoes)", "next_of(echoes)"],
    "checking": ["shows_row(echoes, thing)", "shows_none(echoes, thing)"],
    "pairs": ["pair_of(row)", "row_in(pair)", "is_pair(thing)", "echo_in(pair, many)", "squares_in(pair)"],
    "behind": ["echo_behind(row, echoes)", "taken(row, echoes)"],
    "ends": ["told_apart(one, other)", "from_both(left, right, *, many, weights=None)"],
    "late": ["told_late(hall, beat, side, size)", "parts_of(hall)", "first_heard(hall, room, side)"],
    "records": ["record_of(hall)", "shows_record(wall, thing)"],
    "rowtext": ["row_text(row)", "row_in_text(text)"],
    "desk": ["answers(text)"],
}
CLASSES = {
    ("waves", "Waves"): [
        "__init__(self, row, *, first=(1, 1))", "cry(self, side, size)", "beat(self, many=1)", "turn(self)", "row(self)",
        "on_way(self)", "squares(self)", "beats(self)", "heard(self, side)", "is_still(self)", "twin(self)",
        "__eq__(self, other)", "__len__(self)",
    ],
    ("hall", "Hall"): [
        "__init__(self, rooms, *, wall=0)", "cry(self, side, size)", "change(self, room, weight)", "beat(self, many=1)",
        "turn(self)", "do(self, deeds)", "undo(self)", "rooms(self)", "row(self)", "on_way(self)", "heard(self, side)",
        "beats(self)", "ledger(self)", "deeds(self)", "as_of(self, many)", "twin(self)", "log(self)",
        "__eq__(self, other)", "__len__(self)",
    ],
}
ERRORS = {
    "BadText": (ValueError, "text"), "BadRow": (ValueError, "number"), "NoPane": (ValueError,), "NoCry": (ValueError,),
    "NoRow": (ValueError,), "Few": (ValueError, "lack"), "Clash": (ValueError, "place"), "ClashWeights": (ValueError,),
    "NoRoom": (LookupError, "room"), "NoDeed": (LookupError, "many"), "Walled": (RuntimeError,),
}
FOLDER = os.path.dirname(os.path.dirname(os.path.abspath(__file__)))


def module_of(name):
    return importlib.import_module("echopanes." + name)


class Interface(unittest.TestCase):
    def test_functions(self):
        for name, listed in FUNCTIONS.items():
            for row in listed:
                function = getattr(module_of(name), row.partition("(")[0])
                self.assertTrue(inspect.isfunction(function))
                self.assertEqual(function.__name__ + str(inspect.signature(function)), row)
                self.assertEqual(function.__module__, "echopanes." + name)

    def test_classes(self):
        for (name, owner), listed in CLASSES.items():
            kind = getattr(module_of(name), owner)
            for row in listed:
                method = vars(kind)[row.partition("(")[0]]
                self.assertEqual(method.__name__ + str(inspect.signature(method)), row)

    def test_errors(self):
        errors = module_of("errors")
        self.assertEqual({name for name, kind in vars(errors).items() if inspect.isclass(kind)}, set(ERRORS))
        for name, (base, *fields) in ERRORS.items():
            kind = getattr(errors, name)
            self.assertEqual(kind.__bases__, (base,))
            why = kind(*[7 for field in fields])
            self.assertEqual([getattr(why, field) for field in fields], [7 for field in fields])
            self.assertEqual([getattr(kind(**{field: 7 for field in fields}), field) for field in fields], [7 for field in fields])

    def test_each_file_can_be_imported_by_itself(self):
        for name in list(FUNCTIONS) + ["errors", "hall"]:
            code = f"import echopanes.{name}"
            told = subprocess.run([sys.executable, "-B", "-c", code], cwd=FOLDER, capture_output=True, text=True)
            self.assertEqual((told.returncode, told.stdout, told.stderr), (0, "", ""), name)


if __name__ == "__main__":
    unittest.main()
