"""The interface: names, their arguments, and the files that define them."""

import importlib
import inspect
import unittest

FUNCTIONS = {
    "packwants.wants": {
        "covers": ["content", "want"],
        "rest": ["want", "content"],
        "lesser": ["want"],
    },
    "packwants.shops": {
        "look": ["shop"],
        "lines": ["shop"],
        "line_content": ["shop", "line"],
        "line_price": ["shop", "line"],
        "bought": ["shop", "purchase"],
    },
    "packwants.least": {
        "least": ["shop", "want"],
        "cases": ["shop", "want"],
        "shows": ["shop", "want", "table"],
    },
    "packwants.prices": {
        "fair": ["shop", "prices"],
        "single_prices": ["shop", "want"],
        "hold_together": ["shop", "want", "told"],
    },
    "packwants.spare": {
        "spared": ["shop"],
        "thinned": ["shop"],
    },
    "packwants.moves": {
        "moves": ["shop", "want", "place"],
    },
    "packwants.texts": {
        "show_content": ["names", "content"],
        "read_content": ["names", "text"],
        "show_shop": ["names", "shop"],
        "read_shop": ["names", "rows"],
    },
}


class InterfaceTest(unittest.TestCase):
    def test_functions_stand_in_their_files_with_their_arguments(self):
        for file, functions in FUNCTIONS.items():
            module = importlib.import_module(file)
            for name, arguments in functions.items():
                with self.subTest(file, name=name):
                    function = getattr(module, name)
                    self.assertTrue(inspect.isfunction(function))
                    self.assertEqual(function.__module__, file)
                    self.assertEqual(list(inspect.signature(function).parameters), arguments)

    def test_the_desk_stands_in_its_file_with_its_method(self):
        desk = importlib.import_module("packwants.desk").Desk
        self.assertTrue(inspect.isclass(desk))
        self.assertEqual(desk.__module__, "packwants.desk")
        self.assertEqual(list(inspect.signature(desk).parameters), [])
        self.assertEqual(list(inspect.signature(vars(desk)["say"]).parameters), ["self", "line"])


if __name__ == "__main__":
    unittest.main()
