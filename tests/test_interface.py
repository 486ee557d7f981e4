"""[2] and the interface: names, parameters, and the files in which they are defined."""

import inspect
import unittest

from seedcup import blocks, byes, chances, claims, draws, meetings, opponents, snakes, upsets

SIGNATURES = {
    blocks: {
        "seed_at": "(rounds, place)",
        "place_of": "(rounds, seed)",
        "bracket": "(rounds)",
        "block_of": "(rounds, level, seed)",
        "nth_member": "(rounds, level, block, index)",
        "member_index": "(rounds, level, seed)",
    },
    meetings: {
        "meeting_round": "(rounds, first, second)",
        "common_level": "(rounds, seed, *more)",
        "share_block": "(rounds, level, *seeds)",
    },
    opponents: {
        "nth_opponent": "(rounds, seed, stage, index)",
        "opponents": "(rounds, seed, stage)",
        "expected_path": "(rounds, seed)",
    },
    snakes: {
        "snake_group": "(groups, seed)",
        "nth_in_group": "(groups, group, index)",
        "group_sum": "(groups, group, count)",
        "refines": "(groups, other)",
    },
    byes: {
        "count_matches": "(rounds, players, stage)",
        "first_match": "(rounds, players, seed)",
        "count_opponents": "(rounds, players, seed, stage)",
    },
    claims: {
        "consistent": "(rounds, *claims)",
        "conflict": "(rounds, *claims)",
        "free_matches": "(rounds, *claims)",
        "follows": "(rounds, claim, *claims)",
    },
    chances: {
        "possible_ends": "(rounds, claims, seed)",
        "can_meet": "(rounds, claims, first, second)",
        "count_winners": "(rounds, claims, level, block)",
        "nth_winner": "(rounds, claims, level, block, index)",
    },
    upsets: {
        "expected_winner": "(rounds, claims, level, block)",
        "upset_matches": "(rounds, claims)",
        "fewest_upsets": "(rounds, claims)",
    },
    draws: {
        "is_standard": "(draw)",
        "why_not_standard": "(draw)",
        "nth_draw": "(rounds, index)",
        "rank_draw": "(draw)",
    },
}
GENERATORS = ("bracket", "opponents")


def functions_of_the_interface():
    for module, signatures in SIGNATURES.items():
        for name, signature in signatures.items():
            yield module, name, signature


class TestInterface(unittest.TestCase):
    def test_functions_are_defined_in_their_files(self):
        for module, name, _ in functions_of_the_interface():
            self.assertTrue(inspect.isfunction(vars(module)[name]), name)
            self.assertEqual(vars(module)[name].__module__, module.__name__, name)
            self.assertEqual(vars(module)[name].__name__, name)

    def test_parameters_have_the_names_shown(self):
        for module, name, signature in functions_of_the_interface():
            self.assertEqual(str(inspect.signature(vars(module)[name])), signature, name)

    def test_generators_are_those_that_the_document_lists(self):
        for module, name, _ in functions_of_the_interface():
            self.assertEqual(inspect.isgeneratorfunction(vars(module)[name]), name in GENERATORS, name)


if __name__ == "__main__":
    unittest.main()
