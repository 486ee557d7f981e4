"""[2] and the interface: names, parameters, and the files in which they are defined."""

import inspect
import pathlib
import unittest

from seedcup import (blocks, byes, chances, claims, cup, draws, kinds, meetings, opponents, results, snakes, texts,
                     upsets)

SIGNATURES = {
    blocks: {
        "seed_at": "(rounds, place)",
        "place_of": "(rounds, seed)",
        "bracket": "(rounds)",
        "block_of": "(rounds, level, seed)",
        "nth_member": "(rounds, level, block, index)",
        "member_index": "(rounds, level, seed)",
    },
    meetings: {
        "meeting_round": "(rounds, first, second)",
        "common_level": "(rounds, seed, *more)",
        "share_block": "(rounds, level, *seeds)",
    },
    opponents: {
        "nth_opponent": "(rounds, seed, stage, index)",
        "opponents": "(rounds, seed, stage)",
        "expected_path": "(rounds, seed)",
    },
    snakes: {
        "snake_group": "(groups, seed)",
        "nth_in_group": "(groups, group, index)",
        "group_sum": "(groups, group, count)",
        "refines": "(groups, other)",
    },
    byes: {
        "count_matches": "(rounds, players, stage)",
        "first_match": "(rounds, players, seed)",
        "count_opponents": "(rounds, players, seed, stage)",
    },
    claims: {
        "consistent": "(rounds, *claims)",
        "conflict": "(rounds, *claims)",
        "free_matches": "(rounds, *claims)",
        "follows": "(rounds, claim, *claims)",
    },
    chances: {
        "possible_ends": "(rounds, claims, seed)",
        "can_meet": "(rounds, claims, first, second)",
        "count_winners": "(rounds, claims, level, block)",
        "nth_winner": "(rounds, claims, level, block, index)",
    },
    upsets: {
        "expected_winner": "(rounds, claims, level, block)",
        "upset_matches": "(rounds, claims)",
        "fewest_upsets": "(rounds, claims)",
    },
    draws: {
        "is_standard": "(draw)",
        "why_not_standard": "(draw)",
        "nth_draw": "(rounds, index)",
        "rank_draw": "(draw)",
    },
    results: {
        "is_result": "(rounds, value)",
        "nth_result": "(rounds, index)",
        "rank_result": "(rounds, result)",
        "satisfies": "(rounds, result, *claims)",
    },
    texts: {
        "format_claims": "(claims)",
        "format_draw": "(draw)",
        "parse_claims": "(text)",
        "parse_draw": "(text)",
    },
}
GENERATORS = ("bracket", "opponents")

CLASSES = {
    cup: {"Cup": "(rounds)"},
    kinds: {"SeriesCup": "(rounds, wins=2)", "NamedCup": "(rounds, **names)",
            "NamedSeriesCup": "(rounds, wins=2, **names)"},
}
METHODS = {
    "Cup": {"record": "(self, *claims)", "undo": "(self)", "journey": "(self, seed)", "told": "(self)",
            "__len__": "(self)"},
    "SeriesCup": {"told": "(self)"},
    "NamedCup": {"seed_of": "(self, name)", "name_of": "(self, seed)", "told": "(self)"},
    "NamedSeriesCup": {"told": "(self)"},
}
PROPERTIES = {
    "Cup": ("claimed", "free_now", "favourite"),
    "SeriesCup": ("least_games", "most_games"),
    "NamedCup": (),
    "NamedSeriesCup": (),
}


def functions_of_the_interface():
    for module, signatures in SIGNATURES.items():
        for name, signature in signatures.items():
            yield module, name, signature


class TestInterface(unittest.TestCase):
    def test_functions_are_defined_in_their_files(self):
        for module, name, _ in functions_of_the_interface():
            self.assertTrue(inspect.isfunction(vars(module)[name]), name)
            self.assertEqual(vars(module)[name].__module__, module.__name__, name)
            self.assertEqual(vars(module)[name].__name__, name)

    def test_parameters_have_the_names_shown(self):
        for module, name, signature in functions_of_the_interface():
            self.assertEqual(str(inspect.signature(vars(module)[name])), signature, name)

    def test_generators_are_those_that_the_document_lists(self):
        for module, name, _ in functions_of_the_interface():
            self.assertEqual(inspect.isgeneratorfunction(vars(module)[name]), name in GENERATORS, name)

    def test_the_package_holds_nothing_but_its_modules(self):
        folder = pathlib.Path(cup.__file__).parent
        names = [entry.name for entry in folder.iterdir() if entry.name != "__pycache__"]
        self.assertIn("__init__.py", names)
        self.assertEqual([name for name in names if not name.endswith(".py")], [])


class TestClasses(unittest.TestCase):
    """Classes are defined in their files, and each defines itself what the interface lists for it."""

    def classes(self):
        for module, signatures in CLASSES.items():
            for name, signature in signatures.items():
                yield module, vars(module)[name], signature

    def test_classes_are_defined_in_their_files(self):
        for module, defined, signature in self.classes():
            self.assertTrue(inspect.isclass(defined), defined)
            self.assertEqual(defined.__module__, module.__name__)
            self.assertEqual(str(inspect.signature(defined)), signature, defined)

    def test_methods(self):
        for _, defined, _ in self.classes():
            for name, signature in METHODS[defined.__name__].items():
                method = vars(defined)[name]
                self.assertTrue(inspect.isfunction(method), (defined, name))
                self.assertEqual(str(inspect.signature(method)), signature, (defined, name))
                self.assertEqual(inspect.isgeneratorfunction(method), name == "journey", (defined, name))

    def test_properties(self):
        for _, defined, _ in self.classes():
            for name in PROPERTIES[defined.__name__]:
                self.assertIsInstance(vars(defined)[name], property, (defined, name))

    def test_what_belongs_to_the_class_itself(self):
        own = vars(cup.Cup)
        self.assertIsInstance(own["read"], classmethod)
        self.assertEqual(str(inspect.signature(cup.Cup.read)), "(text)")
        self.assertIsInstance(own["fits"], staticmethod)
        self.assertEqual(str(inspect.signature(cup.Cup.fits)), "(rounds, value)")
        self.assertEqual(own["MOST_ROUNDS"], 100)


if __name__ == "__main__":
    unittest.main()
