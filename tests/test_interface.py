"""The names and arguments of the interface, and that each stands in the file that lists it."""

import ast
import inspect
import pathlib
import unittest

from chainkeep import asking, chains, deeds, errors, falling, running, steps

PACKAGE = pathlib.Path(__file__).resolve().parent.parent / "chainkeep"
FUNCTIONS = (
    (deeds, "is_key", ["thing"]),
    (deeds, "is_deed", ["thing"]),
    (deeds, "done_by", ["store", "deed"]),
    (deeds, "plainly", ["deeds"]),
    (chains, "begun", ["many"]),
    (chains, "take", ["chain", "deed"]),
    (steps, "steps_of", ["chain"]),
    (steps, "done", ["chain", "step"]),
    (steps, "quiet", ["chain"]),
    (falling, "fall", ["chain", "place"]),
    (falling, "come", ["chain"]),
    (asking, "ask", ["chain", "key"]),
    (asking, "told", ["chain", "asker", "turn"]),
    (asking, "look", ["chain", "place", "key"]),
    (running, "run", ["many", "doings"]),
)


def defined_in(module):
    """The names that the module's file defines by def or class at its top."""
    tree = ast.parse(pathlib.Path(module.__file__).read_text(encoding="utf-8"))
    return [part.name for part in tree.body if isinstance(part, (ast.FunctionDef, ast.ClassDef))]


class InterfaceTest(unittest.TestCase):
    def test_functions_have_their_arguments(self):
        for module, name, arguments in FUNCTIONS:
            with self.subTest(name=name):
                self.assertIn(name, defined_in(module))
                told = inspect.signature(getattr(module, name))
                self.assertEqual(list(told.parameters), arguments)

    def test_arguments_may_be_given_by_name(self):
        store, answer = deeds.done_by(store={}, deed=(0, 1, "put", "a", 5))
        self.assertEqual((store, answer), ({"a": 5}, None))
        self.assertEqual(deeds.plainly(deeds=[]), ({}, []))
        self.assertTrue(deeds.is_key(thing="a"))
        self.assertFalse(deeds.is_deed(thing="a"))
        chain = chains.take(chain=chains.begun(many=1), deed=(0, 1, "put", "a", 5))
        self.assertEqual(chain, ([([(0, 1, "put", "a", 5)], 1, [], [])], None))
        chain = falling.come(chain=chain)
        self.assertEqual(steps.steps_of(chain=chain), [("learn", 1)])
        self.assertEqual(steps.done(chain=chain, step=("learn", 1)), steps.quiet(chain=chain))
        self.assertEqual(falling.fall(chain=steps.quiet(chain=chain), place=0), (chain[0], None))
        self.assertEqual(asking.ask(chain=chain, key="a"), 5)
        self.assertEqual(asking.told(chain=chain, asker=0, turn=1), ("done", None))
        self.assertEqual(asking.look(chain=chain, place=0, key="a"), ("sure", 5))
        self.assertEqual(running.run(many=2, doings=[("fall", 1)]), (chains.begun(1), ["done"]))

    def test_errors_are_defined_in_their_file(self):
        for name in (
            "KeepError", "BadDeed", "BadKey", "BadTurn", "OtherDeed", "NoStep", "NoKeeper", "OnlyKeeper",
            "OneComing", "TooMany",
        ):
            self.assertIn(name, defined_in(errors))


class FilesTest(unittest.TestCase):
    def test_the_folder_has_source_files_only(self):
        for path in PACKAGE.iterdir():
            # Python's own cache is no part of what is committed.
            if path.name == "__pycache__":
                continue
            self.assertTrue(path.is_file() and path.suffix == ".py", path)

    def test_sizes_and_signs(self):
        for path in PACKAGE.glob("*.py"):
            text = path.read_text(encoding="utf-8")
            self.assertTrue(text.replace("\n", "").isascii() and text.replace("\n", "").isprintable(), path)
            self.assertLessEqual(len(text.splitlines()), 399, path)
            self.assertLessEqual(max([len(line) for line in text.splitlines()] + [0]), 120, path)
            for part in ast.walk(ast.parse(text)):
                if isinstance(part, ast.FunctionDef):
                    self.assertLessEqual(part.end_lineno - part.lineno + 1, 40, (path, part.name))

    def test_only_the_package_is_imported(self):
        for path in PACKAGE.glob("*.py"):
            for part in ast.walk(ast.parse(path.read_text(encoding="utf-8"))):
                self.assertNotIsInstance(part, ast.Import, path)
                if isinstance(part, ast.ImportFrom):
                    self.assertTrue(part.level == 0 and part.module.startswith("chainkeep."), path)


if __name__ == "__main__":
    unittest.main()
