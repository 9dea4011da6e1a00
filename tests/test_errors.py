"""Point 3 and the interface of lentpages.errors."""

import unittest

from lentpages import errors

BASES = {
    "PagesError": None,
    "AccessError": "PagesError",
    "LimitError": "PagesError",
    "MissingError": "PagesError",
    "FileError": "PagesError",
    "CodeError": "PagesError",
    "BadRange": "AccessError",
    "Unmapped": "AccessError",
    "Denied": "AccessError",
    "BeyondFile": "AccessError",
    "NoHole": "LimitError",
    "NoRoom": "LimitError",
    "NoBlocks": "LimitError",
    "Starved": "LimitError",
    "NoBook": "MissingError",
    "NoStamp": "MissingError",
    "NoSpace": "MissingError",
    "NoFile": "MissingError",
    "NoCheckpoint": "MissingError",
    "FileExists": "FileError",
    "FileInUse": "FileError",
    "BadLine": "CodeError",
    "BadCode": "CodeError",
}

FIELDS = {
    "BadRange": {"start": 3, "end": 2},
    "Unmapped": {"page": 7},
    "Denied": {"page": 7, "right": "w"},
    "BeyondFile": {"name": "data", "index": 12},
    "NoHole": {"length": 5},
    "NoRoom": {"needed": 9, "limit": 8},
    "NoBlocks": {"needed": 30, "limit": 20},
    "Starved": {"needed": 3, "limit": 2},
    "NoBook": {"book": 4},
    "NoStamp": {"stamp": 6},
    "NoSpace": {"space": 1},
    "NoFile": {"name": "data"},
    "NoCheckpoint": {"number": 2},
    "FileExists": {"name": "data"},
    "FileInUse": {"name": "data"},
    "BadLine": {"number": 0},
    "BadCode": {"position": 8},
}


def ancestors(name):
    """The names of a class and of all classes that catch it."""
    names = []
    while name is not None:
        names.append(name)
        name = BASES[name]
    return names


class ErrorTest(unittest.TestCase):
    def test_the_module_has_these_classes_and_no_others(self):
        found = {name for name, value in vars(errors).items() if isinstance(value, type)}
        self.assertEqual(found, set(BASES))

    def test_each_error_is_caught_by_its_base_classes_only(self):
        for name in FIELDS:
            raised = getattr(errors, name)(*FIELDS[name].values())
            for other in BASES:
                with self.subTest(name=name, other=other):
                    caught = isinstance(raised, getattr(errors, other))
                    self.assertEqual(caught, other in ancestors(name))
            self.assertIsInstance(raised, ValueError)

    def test_the_arguments_are_attributes(self):
        for name, fields in FIELDS.items():
            for raised in (getattr(errors, name)(*fields.values()), getattr(errors, name)(**fields)):
                with self.subTest(name=name):
                    self.assertEqual(vars(raised), fields)

    def test_each_error_has_a_message(self):
        for name, fields in FIELDS.items():
            message = str(getattr(errors, name)(*fields.values()))
            for value in fields.values():
                with self.subTest(name=name):
                    self.assertIn(str(value), message)

    def test_the_base_classes_follow_the_interface(self):
        for name, base in BASES.items():
            parent = ValueError if base is None else getattr(errors, base)
            self.assertEqual(getattr(errors, name).__bases__, (parent,))


if __name__ == "__main__":
    unittest.main()
