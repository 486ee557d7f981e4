import itertools
import unittest

from helper import NO_INTEGERS, CupTestCase
from seedcup.cup import Cup
from seedcup.errors import (Inconsistent, InvalidClaim, InvalidRounds, InvalidSeed, InvalidText, InvalidWins,
                            NothingToUndo, UnknownName)
from seedcup.kinds import NamedCup, NamedSeriesCup, SeriesCup

FAR = 10 ** 39
KINDS = (SeriesCup, NamedCup, NamedSeriesCup)
WRONG_ROUNDS = (0, 101, -1, -FAR, FAR) + NO_INTEGERS
WRONG_WINS = (0, -1, -FAR) + NO_INTEGERS


def wrong_seeds(rounds):
    return (0, 2 ** rounds + 1, -1, -FAR, FAR) + NO_INTEGERS


class TestExamples(unittest.TestCase):
    """The example of section 15."""

    def test_named_series_cup(self):
        cup = NamedSeriesCup(3, 4, ann=5, bob=1)
        self.assertEqual(cup.told(), ["rounds 3", "claims 0", "series 4", "names 2"])
        self.assertEqual(cup.most_games, 49)


class TestClasses(unittest.TestCase):
    """[23]: which class is below which, and what each defines itself."""

    def test_bases(self):
        self.assertTrue(issubclass(SeriesCup, Cup))
        self.assertTrue(issubclass(NamedCup, Cup))
        self.assertTrue(issubclass(NamedSeriesCup, SeriesCup))
        self.assertTrue(issubclass(NamedSeriesCup, NamedCup))
        self.assertFalse(issubclass(SeriesCup, NamedCup))
        self.assertFalse(issubclass(NamedCup, SeriesCup))

    def test_an_object_of_all_four_classes(self):
        cup = NamedSeriesCup(3)
        for kind in (Cup,) + KINDS:
            self.assertIsInstance(cup, kind)

    def test_each_has_its_own_told(self):
        for kind in KINDS:
            self.assertIn("told", vars(kind))


class TestSeries(CupTestCase):
    """[23]: SeriesCup, and the series of a NamedSeriesCup."""

    def test_games(self):
        for kind in (SeriesCup, NamedSeriesCup):
            for rounds in (1, 2, 3, 64, 100):
                for wins in (1, 2, 3, 4, 7, 50, FAR, 10 ** 40 - 1):
                    cup = kind(rounds, wins)
                    self.assertEqual(cup.least_games, wins * (2 ** rounds - 1))
                    self.assertEqual(cup.most_games, (2 * wins - 1) * (2 ** rounds - 1))
                    self.assertEqual(cup.told()[:3], [f"rounds {rounds}", "claims 0", f"series {wins}"])

    def test_all_lengths_of_small_cups(self):
        # A series ends with the game that gives one side its last win.
        for wins in (1, 2, 3):
            lengths = {len(games) for size in range(1, 2 * wins) for games in itertools.product("ab", repeat=size)
                       if games.count(games[-1]) == wins and max(games.count("a"), games.count("b")) == wins
                       and min(games.count("a"), games.count("b")) < wins}
            cup = SeriesCup(1, wins)
            self.assertEqual((cup.least_games, cup.most_games), (min(lengths), max(lengths)))

    def test_two_wins_if_nothing_is_said(self):
        for cup in (SeriesCup(3), NamedSeriesCup(3), NamedSeriesCup(3, ann=1)):
            self.assertEqual(cup.told()[2], "series 2")
            self.assertEqual((cup.least_games, cup.most_games), (14, 21))

    def test_games_do_not_depend_on_claims(self):
        cup = SeriesCup(3, 4)
        cup.record(("won", 5, 2))
        self.assertEqual((cup.least_games, cup.most_games), (28, 49))
        self.assertEqual(cup.told(), ["rounds 3", "claims 1", "series 4"])

    def test_by_name(self):
        self.assertEqual(SeriesCup(rounds=3, wins=4).told(), ["rounds 3", "claims 0", "series 4"])
        self.assertEqual(SeriesCup(wins=4, rounds=3).told(), ["rounds 3", "claims 0", "series 4"])
        self.assertEqual(SeriesCup(3, wins=4).told(), ["rounds 3", "claims 0", "series 4"])

    def test_errors_of_the_constructor(self):
        for rounds in WRONG_ROUNDS:
            self.assert_error(InvalidRounds, SeriesCup, rounds)
            self.assert_error(InvalidRounds, SeriesCup, rounds, 0)
            self.assert_error(InvalidRounds, SeriesCup, wins=None, rounds=rounds)
        for wins in WRONG_WINS:
            self.assert_error(InvalidWins, SeriesCup, 3, wins)
            self.assert_error(InvalidWins, SeriesCup, 3, wins=wins)


class TestNames(CupTestCase):
    """[23]: NamedCup, and the names of a NamedSeriesCup."""

    def cups(self):
        names = {"ann": 5, "bob": 1, "eve": 5, "dan": 8}
        return NamedCup(3, **names), NamedSeriesCup(3, **names), NamedSeriesCup(3, 4, **names)

    def test_seed_of(self):
        for cup in self.cups():
            self.assertEqual([cup.seed_of(name) for name in ("ann", "bob", "eve", "dan")], [5, 1, 5, 8])
            self.assertEqual(cup.seed_of(name="ann"), 5)

    def test_name_of(self):
        for cup in self.cups():
            self.assertEqual([cup.name_of(seed) for seed in range(1, 9)],
                             ["bob", None, None, None, "ann", None, None, "dan"])
            self.assertEqual(cup.name_of(seed=1), "bob")

    def test_the_first_of_two_names(self):
        self.assertEqual(NamedCup(3, eve=5, ann=5).name_of(5), "eve")
        self.assertEqual(NamedCup(3, ann=5, eve=5).name_of(5), "ann")
        self.assertEqual(NamedSeriesCup(3, zoe=1, eve=5, bob=2, ann=5).name_of(5), "eve")

    def test_told(self):
        named, series, _ = self.cups()
        self.assertEqual(named.told(), ["rounds 3", "claims 0", "names 4"])
        self.assertEqual(series.told(), ["rounds 3", "claims 0", "series 2", "names 4"])
        self.assertEqual(NamedCup(3, ann=5, eve=5).told(), ["rounds 3", "claims 0", "names 2"])

    def test_no_names(self):
        for cup in (NamedCup(3), NamedSeriesCup(3), NamedSeriesCup(3, 4)):
            self.assertEqual(cup.told()[-1], "names 0")
            self.assertEqual([cup.name_of(seed) for seed in range(1, 9)], [None] * 8)
            self.assert_error(UnknownName, cup.seed_of, "ann")

    def test_names_that_are_words_of_the_program(self):
        names = {"seed": 1, "name": 2, "names": 3, "told": 4, "record": 5, "cls": 6, "claims": 7, "text": 8}
        for cup in (NamedCup(3, **names), NamedSeriesCup(3, **names)):
            self.assertEqual({name: cup.seed_of(name) for name in names}, names)
            self.assertEqual([cup.name_of(seed) for seed in range(1, 9)], list(names))
            self.assertEqual(cup.told()[-1], "names 8")

    def test_large_cups(self):
        names = {f"n{number}": 2 ** 100 - number for number in range(40)}
        for cup in (NamedCup(100, **names), NamedSeriesCup(100, **names)):
            self.assertEqual(cup.seed_of("n0"), 2 ** 100)
            self.assertEqual(cup.name_of(2 ** 100 - 39), "n39")
            self.assertIsNone(cup.name_of(1))
            self.assertEqual(cup.told()[-1], "names 40")

    def test_unknown_names(self):
        for cup in self.cups():
            for wrong in ("", "Ann", "ann ", "an", "rounds", "self", None, True, False, 0, 1, 5, 1.0, b"ann", [], ["ann"],
                          ("ann",), (), {}, {"ann": 5}, {"ann"}, ([],), cup):
                self.assert_error(UnknownName, cup.seed_of, wrong)

    def test_seeds_without_a_name_are_not_wrong(self):
        for cup in self.cups():
            self.assertIsNone(cup.name_of(2))
            for wrong in wrong_seeds(3):
                self.assert_error(InvalidSeed, cup.name_of, wrong)

    def test_the_dict_of_names_belongs_to_the_caller(self):
        names = {"ann": 5}
        cup = NamedCup(3, **names)
        names["bob"] = 1
        names["ann"] = 2
        self.assertEqual((cup.seed_of("ann"), cup.name_of(1)), (5, None))
        self.assertEqual(names, {"ann": 2, "bob": 1})

    def test_errors_of_the_constructor(self):
        for rounds in WRONG_ROUNDS:
            self.assert_error(InvalidRounds, NamedCup, rounds)
            self.assert_error(InvalidRounds, NamedCup, rounds, ann=0)
            self.assert_error(InvalidRounds, NamedCup, ann=0, rounds=rounds)
        for wrong in wrong_seeds(3):
            self.assert_error(InvalidSeed, NamedCup, 3, ann=wrong)
            self.assert_error(InvalidSeed, NamedCup, 3, ann=1, bob=wrong)
            self.assert_error(InvalidSeed, NamedCup, 3, ann=wrong, bob=1)
        NamedCup(4, ann=9)
        self.assert_error(InvalidSeed, NamedCup, 3, ann=9)


class TestBoth(CupTestCase):
    """[23]: NamedSeriesCup."""

    def test_by_name(self):
        expected = ["rounds 3", "claims 0", "series 4", "names 1"]
        self.assertEqual(NamedSeriesCup(rounds=3, wins=4, ann=1).told(), expected)
        self.assertEqual(NamedSeriesCup(ann=1, wins=4, rounds=3).told(), expected)
        self.assertEqual(NamedSeriesCup(3, 4, ann=1).told(), expected)

    def test_errors_of_the_constructor(self):
        for rounds in WRONG_ROUNDS:
            self.assert_error(InvalidRounds, NamedSeriesCup, rounds)
            self.assert_error(InvalidRounds, NamedSeriesCup, rounds, 0)
            self.assert_error(InvalidRounds, NamedSeriesCup, rounds, 0, ann=0)
            self.assert_error(InvalidRounds, NamedSeriesCup, ann=0, wins=None, rounds=rounds)
        for wins in WRONG_WINS:
            self.assert_error(InvalidWins, NamedSeriesCup, 3, wins)
            self.assert_error(InvalidWins, NamedSeriesCup, 3, wins, ann=0)
            self.assert_error(InvalidWins, NamedSeriesCup, ann=None, wins=wins, rounds=3)
        for wrong in wrong_seeds(3):
            self.assert_error(InvalidSeed, NamedSeriesCup, 3, ann=wrong)
            self.assert_error(InvalidSeed, NamedSeriesCup, 3, 4, ann=1, bob=wrong)


class TestTheyAreCups(CupTestCase):
    """[21] and [22] hold for all kinds."""

    def test_record_and_undo(self):
        for kind in KINDS:
            cup = kind(3)
            rest = cup.told()[2:]
            cup.record(("won", 5, 2), ("out", 2, 1))
            self.assertEqual(cup.told(), ["rounds 3", "claims 2", *rest])
            self.assertEqual((len(cup), cup.claimed), (2, (("won", 5, 2), ("out", 2, 1))))
            self.assertEqual((cup.favourite, cup.free_now), (3, 4))
            self.assertEqual(list(cup.journey(5)), [(1, 4, True), (2, 1, True), (3, 3, False)])
            self.assert_error(Inconsistent, cup.record, ("won", 1, 2))
            self.assert_error(InvalidClaim, cup.record, ("won", 1, 4))
            self.assert_error(InvalidSeed, cup.journey(9).__next__)
            self.assertEqual(cup.undo(), 2)
            self.assert_error(NothingToUndo, cup.undo)
            self.assertEqual(cup.told(), ["rounds 3", "claims 0", *rest])

    def test_read(self):
        told = {SeriesCup: ["series 2"], NamedCup: ["names 0"], NamedSeriesCup: ["series 2", "names 0"]}
        for kind in KINDS:
            for text, claims in (("3", 0), ("3 | 5 won 2, 2 out 1", 2)):
                cup = kind.read(text)
                self.assertIs(cup.__class__, kind)
                self.assertEqual(cup.told(), ["rounds 3", f"claims {claims}", *told[kind]])
            self.assertEqual(cup.undo(), 2)
            self.assert_error(NothingToUndo, kind.read("3").undo)
            self.assert_error(InvalidText, kind.read, "3 | ")
            self.assert_error(InvalidText, kind.read, None)
            self.assert_error(Inconsistent, kind.read, "3 | 1 won 1, 8 won 1")

    def test_read_by_an_object_of_another_kind(self):
        cup = NamedSeriesCup(3, 4, ann=5).read("2")
        self.assertIs(cup.__class__, NamedSeriesCup)
        self.assertEqual(cup.told(), ["rounds 2", "claims 0", "series 2", "names 0"])

    def test_class_values(self):
        for kind in KINDS:
            self.assertEqual(kind.MOST_ROUNDS, 100)
            self.assertIs(kind.fits(3, ("won", 1, 3)), True)
            self.assertIs(kind.fits(3, ("won", 1, 4)), False)

    def test_returned_lists_belong_to_the_caller(self):
        for kind in KINDS:
            cup = kind(3)
            first, second = cup.told(), cup.told()
            self.assertIsNot(first, second)
            first.clear()
            self.assertEqual(cup.told(), second)

    def test_cups_of_one_kind_do_not_influence_each_other(self):
        first, second = NamedSeriesCup(3, 4, ann=5), NamedSeriesCup(3, 2, bob=5)
        first.record(("won", 5, 3))
        self.assertEqual((first.name_of(5), second.name_of(5)), ("ann", "bob"))
        self.assertEqual((first.least_games, second.least_games), (28, 14))
        self.assertEqual((first.favourite, second.favourite), (5, 1))
        self.assert_error(UnknownName, second.seed_of, "ann")


if __name__ == "__main__":
    unittest.main()
