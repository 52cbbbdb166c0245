"""Names, arguments and files of the interface [28]."""

import importlib
import inspect
import unittest

FUNCTIONS = {
    "sources": """is_source(thing), statement_names(source), conditions_of(source), statement_of(source, name),
        guard_of(source, name), target_of(source, name), reads_of(source, name), acts(source, name, conditions),
        source_told(source, conditions, turns), roots_of_step(source, conditions, name, turn),
        cells_after(source, conditions, turns), source_text(source), source_from(text)""",
    "meets": """first_touch(one, other), do_touch(one, other), turns_back(read, written), arrays_of(source),
        parts_of_array(source, array), uneven_arrays(source), is_even(source), check_even(source),
        writers_met(source, name, number), letter_met(source, name, number, conditions, turn), never_read(source)""",
    "flows": """all_conditions(source), leaf(tree, conditions), asked_in(tree), plain_tree(tree), leaves(tree),
        telling_conditions(one, other), later_tree(tree, d), is_tree(names, thing),
        tree_of_read(source, name, number), flow(source)""",
}


class InterfaceTest(unittest.TestCase):

    def test_each_function_stands_in_its_file_with_its_arguments(self):
        for file, text in FUNCTIONS.items():
            module = importlib.import_module("builtahead." + file)
            for told in text.replace("),", ")\n").split("\n"):
                if not told.strip():
                    continue
                with self.subTest(told=told.strip()):
                    name, _, rest = told.strip().partition("(")
                    function = getattr(module, name)
                    self.assertTrue(inspect.isfunction(function))
                    self.assertEqual(function.__module__, "builtahead." + file)
                    found = list(inspect.signature(function).parameters.values())
                    self.assertEqual([part.name for part in found], rest.rstrip(")").split(", "))
                    for part in found:
                        self.assertEqual(part.kind, part.POSITIONAL_OR_KEYWORD)
                        self.assertIs(part.default, part.empty)


if __name__ == "__main__":
    unittest.main()
