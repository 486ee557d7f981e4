import itertools
import random
import unittest

from helper import (LARGE_CUPS, NO_INTEGERS, PLAYED, CupTestCase, block_by_rule, expected_by_halves,
                    few_seeds_of_interest, fit, halves_by_rule, matches_of, play_expected, random_claims)
from seedcup.cup import Cup
from seedcup.errors import Inconsistent, InvalidClaim, InvalidRounds, InvalidSeed, InvalidText, NothingToUndo

FAR = 10 ** 39

NO_CLAIMS = (
    None, True, False, 0, 5, "", "won", "5 won 2", b"won", [], {}, (), ("won",), ("won", 1), ("won", 1, 1, 1),
    ["won", 1, 1], [("won", 1, 1)], (("won", 1, 1),), ("win", 1, 1), ("Won", 1, 1), ("", 1, 1), (b"won", 1, 1),
    (None, 1, 1), (["won"], 1, 1), (1, "won", 1), ("won", 0, 1), ("out", 1, 0), ("won", -1, 1), ("out", 1, -1),
    ("won", FAR, 1), ("out", 1, FAR), ("won", True, 1), ("won", 1, True), ("out", None, 1), ("out", 1, None),
    ("won", "1", 1), ("won", 1, "1"), ("won", [1], 1), ("won", 1, [1]), ("won", 1.0, 1), ("out", 1, 1.0),
)


def for_larger_cups(rounds):
    return (("won", 2 ** rounds + 1, 1), ("out", 2 ** rounds + 1, 1), ("won", 1, rounds + 1), ("out", 1, rounds + 1))


def journey_by_play(matches, seed):
    """The matches of a seed in a played result."""
    return [(stage, winner + loser - seed, winner == seed)
            for stage, _, winner, loser in matches if seed in (winner, loser)]


def state_of(cup, seeds):
    """All that a cup tells about its claims."""
    return (cup.claimed, len(cup), cup.told(), cup.free_now, cup.favourite,
            [list(cup.journey(seed)) for seed in seeds])


class ExpectedCup:
    """What a small cup must tell: its claims are kept as they came, and everything is played anew."""

    known = {}

    def __init__(self, rounds):
        self.rounds = rounds
        self.calls = []

    def claims(self):
        return tuple(claim for call in self.calls for claim in call)

    def state(self):
        claims = self.claims()
        key = (self.rounds, claims)
        if key not in self.known:
            self.known[key] = self.work_out(claims)
        return self.known[key]

    def work_out(self, claims):
        cup = PLAYED[self.rounds]
        ends = play_expected(self.rounds, claims)
        matches = matches_of(self.rounds, ends)
        free = cup.results_of(claims).bit_count().bit_length() - 1
        told = [f"rounds {self.rounds}", f"claims {len(claims)}"]
        journeys = [journey_by_play(matches, seed) for seed in cup.seeds]
        return claims, len(claims), told, free, max(ends, key=ends.get), journeys


class TestExamples(unittest.TestCase):
    """The example of section 14."""

    def test_cup(self):
        cup = Cup(3)
        self.assertIsNone(cup.record(("won", 5, 2), ("out", 2, 1)))
        self.assertEqual(cup.favourite, 3)
        self.assertEqual(list(cup.journey(5)), [(1, 4, True), (2, 1, True), (3, 3, False)])
        self.assertEqual(cup.told(), ["rounds 3", "claims 2"])


class TestSmallCups(CupTestCase):
    """[21] and [22] against the results of cups of one to three rounds."""

    def check_state(self, cup, expected):
        self.assertEqual(state_of(cup, PLAYED[expected.rounds].seeds), expected.state())

    def record(self, cup, expected, claims):
        """Record claims in both cups; returns whether they fit."""
        fits = PLAYED[expected.rounds].results_of(expected.claims() + tuple(claims)) != 0
        if fits:
            self.assertIsNone(cup.record(*claims))
            expected.calls.append(tuple(claims))
        else:
            self.assert_error(Inconsistent, cup.record, *claims)
        self.check_state(cup, expected)
        return fits

    def undo(self, cup, expected):
        if expected.calls:
            self.assertEqual(cup.undo(), len(expected.calls.pop()))
        else:
            self.assert_error(NothingToUndo, cup.undo)
        self.check_state(cup, expected)

    def test_one_call(self):
        for rounds, small in PLAYED.items():
            for size in (0, 1, 2) if rounds < 3 else (0, 1):
                for claims in itertools.product(small.claims, repeat=size):
                    cup, expected = Cup(rounds), ExpectedCup(rounds)
                    self.check_state(cup, expected)
                    self.record(cup, expected, claims)
                    self.undo(cup, expected)
                    self.undo(cup, expected)

    def test_many_calls(self):
        chance = random.Random(21)
        seen = {True: 0, False: 0}
        for rounds, small in PLAYED.items():
            for _ in range(40):
                cup, expected = Cup(rounds), ExpectedCup(rounds)
                for _ in range(15):
                    if chance.random() < 0.3:
                        self.undo(cup, expected)
                    else:
                        claims = chance.choices(small.claims, k=chance.choice((0, 1, 1, 1, 2, 3)))
                        seen[self.record(cup, expected, claims)] += 1
                while expected.calls:
                    self.undo(cup, expected)
                self.undo(cup, expected)
        self.assertTrue(min(seen.values()) > 200, seen)

    def test_several_claims_that_fit(self):
        chance = random.Random(22)
        for rounds, small in PLAYED.items():
            for _ in range(40):
                cup, expected = Cup(rounds), ExpectedCup(rounds)
                ends = chance.choice(small.results)
                allowed = [claim for claim in small.claims if claim[0] == "won" and ends[claim[1]] > claim[2]
                           or claim[0] == "out" and ends[claim[1]] == claim[2]]
                for _ in range(6):
                    self.assertTrue(self.record(cup, expected, chance.choices(allowed, k=chance.randint(0, 3))))
                while expected.calls:
                    self.undo(cup, expected)

    def test_a_wrong_claim_changes_nothing(self):
        for rounds in PLAYED:
            cup, expected = Cup(rounds), ExpectedCup(rounds)
            self.record(cup, expected, [("won", 1, 1)])
            for wrong in NO_CLAIMS + for_larger_cups(rounds):
                for claims in ((wrong,), (("won", 1, 1), wrong), (wrong, ("out", 2, 1))):
                    self.assert_error(InvalidClaim, cup.record, *claims)
            self.check_state(cup, expected)
            self.undo(cup, expected)
            self.undo(cup, expected)

    def test_other_errors_change_nothing(self):
        cup, expected = Cup(3), ExpectedCup(3)
        self.record(cup, expected, [("won", 5, 2), ("out", 2, 1)])
        self.assert_error(InvalidSeed, cup.journey(9).__next__)
        self.assert_error(InvalidSeed, cup.journey(None).__next__)
        self.assert_error(InvalidText, cup.read, "no text")
        self.assert_error(InvalidRounds, cup.fits, 0, None)
        self.check_state(cup, expected)


class TestRecord(CupTestCase):
    """[21]: record and undo on plain cases."""

    def test_a_call_without_claims_can_be_undone(self):
        cup = Cup(3)
        self.assertIsNone(cup.record())
        cup.record(("won", 5, 2))
        cup.record()
        self.assertEqual((len(cup), cup.claimed), (1, (("won", 5, 2),)))
        self.assertEqual([cup.undo(), cup.undo(), cup.undo()], [0, 1, 0])
        self.assert_error(NothingToUndo, cup.undo)

    def test_claims_twice(self):
        cup = Cup(3)
        cup.record(("won", 5, 2), ("won", 5, 2))
        cup.record(("won", 5, 1), ("won", 5, 2), ("out", 5, 3))
        self.assertEqual(cup.claimed, (("won", 5, 2),) * 2 + (("won", 5, 1), ("won", 5, 2), ("out", 5, 3)))
        self.assertEqual((len(cup), cup.free_now), (5, 4))
        self.assertEqual(cup.undo(), 3)
        self.assertEqual((len(cup), cup.free_now), (2, 5))
        self.assertEqual(cup.undo(), 2)
        self.assertEqual((len(cup), cup.free_now), (0, 7))

    def test_all_or_none(self):
        cup = Cup(3)
        cup.record(("won", 1, 1))
        self.assert_error(Inconsistent, cup.record, ("won", 2, 1), ("won", 3, 1), ("won", 8, 1))
        self.assert_error(Inconsistent, cup.record, ("won", 2, 1), ("won", 7, 1))
        self.assert_error(InvalidClaim, cup.record, ("won", 2, 1), ("won", 9, 1))
        self.assertEqual(cup.claimed, (("won", 1, 1),))
        self.assertEqual(cup.free_now, 6)
        cup.record(("won", 7, 1))
        self.assertEqual([cup.undo(), cup.undo()], [1, 1])
        self.assert_error(NothingToUndo, cup.undo)

    def test_wrong_claims_before_inconsistent_ones(self):
        cup = Cup(3)
        cup.record(("won", 1, 1))
        self.assert_error(InvalidClaim, cup.record, ("out", 1, 1), None)
        self.assert_error(InvalidClaim, cup.record, ("won", 2, 1), ("out", 2, 1), ("won", 1, 4))
        self.assert_error(Inconsistent, cup.record, ("won", 2, 1), ("out", 2, 1))

    def test_a_claim_that_fits_after_an_undo(self):
        cup = Cup(3)
        cup.record(("won", 1, 3))
        self.assert_error(Inconsistent, cup.record, ("won", 2, 3))
        cup.undo()
        cup.record(("won", 2, 3))
        self.assertEqual(cup.favourite, 2)

    def test_forty_claims_at_once(self):
        cup = Cup(100)
        claims = [("won", seed, 94) for seed in range(40, 0, -1)]
        cup.record(*claims)
        self.assertEqual(cup.claimed, tuple(claims))
        self.assertEqual(cup.free_now, 2 ** 100 - 1 - 40 * 94)
        self.assertEqual(cup.undo(), 40)

    def test_cups_do_not_influence_each_other(self):
        first, second, larger = Cup(3), Cup(3), Cup(4)
        first.record(("won", 8, 3))
        larger.record(("won", 2, 4))
        self.assertEqual((len(first), len(second), len(larger)), (1, 0, 1))
        self.assertEqual((first.favourite, second.favourite, larger.favourite), (8, 1, 2))
        self.assert_error(NothingToUndo, second.undo)

    def test_returned_lists_belong_to_the_caller(self):
        cup = Cup(3)
        first, second = cup.told(), cup.told()
        self.assertIsNot(first, second)
        first.append("more")
        first[0] = None
        self.assertEqual(second, ["rounds 3", "claims 0"])
        self.assertEqual(cup.told(), ["rounds 3", "claims 0"])

    def test_a_list_of_claims_stays_as_it_is(self):
        claims = [("won", 5, 2), ("out", 2, 1)]
        cup = Cup(3)
        cup.record(*claims)
        claims.append(None)
        self.assertEqual(cup.claimed, (("won", 5, 2), ("out", 2, 1)))
        cup.undo()
        self.assertEqual(claims, [("won", 5, 2), ("out", 2, 1), None])


class TestJourney(CupTestCase):
    """[21]: journey as a generator."""

    def test_without_claims(self):
        cup = Cup(3)
        self.assertEqual(list(cup.journey(1)), [(1, 8, True), (2, 4, True), (3, 2, True)])
        self.assertEqual(list(cup.journey(3)), [(1, 6, True), (2, 2, False)])
        self.assertEqual(list(cup.journey(8)), [(1, 1, False)])

    def test_errors_come_with_the_first_value(self):
        for rounds in (1, 3, 100):
            cup = Cup(rounds)
            for seed in (0, 2 ** rounds + 1, -1, -FAR, FAR) + NO_INTEGERS:
                self.assert_error(InvalidSeed, cup.journey(seed).__next__)
                self.assert_error(InvalidSeed, cup.journey(seed=seed).__next__)

    def test_kinds_of_values(self):
        cup = Cup(3)
        cup.record(("won", 5, 2), ("out", 2, 1))
        for told in cup.journey(5):
            self.assertEqual([value.__class__ for value in (told, *told)], [tuple, int, int, bool])

    def test_two_at_the_same_time(self):
        cup = Cup(3)
        cup.record(("won", 5, 2))
        first, second, again = cup.journey(5), cup.journey(2), cup.journey(5)
        self.assertEqual([next(first), next(second), next(first)], [(1, 4, True), (1, 7, True), (2, 1, True)])
        self.assertEqual(list(again), [(1, 4, True), (2, 1, True), (3, 2, False)])
        self.assertEqual(list(second), [(2, 3, True), (3, 5, True)])
        self.assertEqual(list(first), [(3, 2, False)])

    def test_a_journey_of_the_claims_of_the_moment(self):
        cup = Cup(3)
        self.assertEqual(list(cup.journey(8)), [(1, 1, False)])
        cup.record(("won", 8, 2))
        self.assertEqual(list(cup.journey(8)), [(1, 1, True), (2, 4, True), (3, 2, False)])
        cup.undo()
        self.assertEqual(list(cup.journey(8)), [(1, 1, False)])


class TestLargeCups(CupTestCase):
    """[21] and [22] on cups that are too large to be played."""

    def cups(self):
        for rounds in (4, 9, 17) + LARGE_CUPS:
            for number, size in enumerate((0, 1, 5, 40, 130)):
                chance = random.Random(rounds * 10 + number)
                claims = random_claims(rounds, size, chance)
                yield rounds, claims, self.recorded(rounds, claims, chance), chance

    def recorded(self, rounds, claims, chance):
        """A cup that has got the claims in calls of several lengths, some of them undone in between."""
        cup = Cup(rounds)
        at = 0
        while at < len(claims):
            step = chance.randint(0, 40)
            cup.record(*claims[at:at + step])
            if chance.random() < 0.3:
                self.assertEqual(cup.undo(), len(claims[at:at + step]))
            else:
                at += step
        return cup

    def test_what_they_tell(self):
        for rounds, claims, cup, _ in self.cups():
            self.assertEqual(cup.claimed, tuple(claims))
            self.assertEqual(len(cup), len(claims))
            self.assertEqual(cup.told(), [f"rounds {rounds}", f"claims {len(claims)}"])
            decided = {(stage, block_by_rule(rounds, stage, claim[1]))
                       for claim in claims for stage in range(1, claim[2] + 1)}
            self.assertEqual(cup.free_now, 2 ** rounds - 1 - len(decided))
            self.assertEqual(cup.favourite, expected_by_halves(rounds, claims, rounds, 1, []))

    def test_journeys(self):
        for rounds, claims, cup, chance in self.cups():
            seeds = [claim[1] for claim in chance.sample(claims, min(4, len(claims)))]
            for seed in sorted({1, 2, 2 ** rounds, cup.favourite, *seeds}):
                self.assertEqual(list(cup.journey(seed)), self.journey(rounds, claims, seed), (rounds, claims, seed))

    def journey(self, rounds, claims, seed):
        matches = []
        for stage in range(1, rounds + 1):
            own = block_by_rule(rounds, stage - 1, seed)
            other = sum(halves_by_rule(rounds, stage, block_by_rule(rounds, stage, seed))) - own
            opponent, winner = [self.winner(rounds, claims, level, block) for level, block in
                                ((stage - 1, other), (stage, block_by_rule(rounds, stage, seed)))]
            matches.append((stage, opponent, winner == seed))
            if winner != seed:
                break
        return matches

    def winner(self, rounds, claims, level, block):
        inside = [claim for claim in claims if block_by_rule(rounds, level, claim[1]) == block]
        return expected_by_halves(rounds, inside, level, block, [])

    def test_claims_that_do_not_fit(self):
        for rounds, claims, cup, chance in self.cups():
            for claim in chance.sample(claims, min(5, len(claims))):
                against = ("out", claim[1], claim[2]) if claim[0] == "won" else ("won", claim[1], claim[2])
                self.assertFalse(fit(rounds, claim, against))
                self.assert_error(Inconsistent, cup.record, against)
                self.assert_error(Inconsistent, cup.record, claims[0], against, claims[-1])
            self.assertEqual(cup.claimed, tuple(claims))

    def test_the_worst_seed_wins(self):
        for rounds in LARGE_CUPS:
            cup = Cup(rounds)
            cup.record(("won", 2 ** rounds, rounds))
            path = [1] + [2 ** (rounds - stage + 1) for stage in range(2, rounds + 1)]
            expected = [(stage, path[stage - 1], True) for stage in range(1, rounds + 1)]
            self.assertEqual(list(cup.journey(2 ** rounds)), expected)
            self.assertEqual(cup.favourite, 2 ** rounds)


class TestRead(CupTestCase):
    """[22]: read, fits and MOST_ROUNDS."""

    def test_texts_without_claims(self):
        for rounds in (1, 2, 3, 9, 10, 11, 99, 100):
            cup = Cup.read(str(rounds))
            self.assertIs(cup.__class__, Cup)
            self.assertEqual(cup.told(), [f"rounds {rounds}", "claims 0"])
            self.assertEqual((cup.claimed, cup.free_now), ((), 2 ** rounds - 1))
            # There was no call of record.
            self.assert_error(NothingToUndo, cup.undo)

    def test_texts_with_claims(self):
        cup = Cup.read("3 | 5 won 2, 2 out 1")
        self.assertIs(cup.__class__, Cup)
        self.assertEqual(cup.claimed, (("won", 5, 2), ("out", 2, 1)))
        self.assertEqual((cup.favourite, cup.free_now), (3, 4))
        self.assertEqual(Cup.read("1 | 2 won 1").favourite, 2)
        self.assertEqual(Cup.read(f"100 | {2 ** 100} won 100").favourite, 2 ** 100)

    def test_the_claims_are_one_call(self):
        cup = Cup.read("3 | 5 won 2, 2 out 1, 5 won 2")
        cup.record(("out", 5, 3))
        self.assertEqual([cup.undo(), cup.undo()], [1, 3])
        self.assert_error(NothingToUndo, cup.undo)
        self.assertEqual(cup.claimed, ())

    def test_long_texts(self):
        claims = [("won", seed, 91) for seed in range(101, 349)]
        text = "100 | " + ", ".join(f"{seed} won {number}" for _, seed, number in claims)
        self.assertTrue(2900 < len(text) <= 3000, len(text))
        self.assertEqual(Cup.read(text).claimed, tuple(claims))
        self.assertEqual(Cup.read(text=text).undo(), len(claims))

    def test_texts_that_are_not_of_the_form(self):
        good = "3 | 5 won 2, 2 out 1"
        wrong = [
            "", " ", "|", " | ", "3 |", "3 | ", "3|5 won 2", "3 |5 won 2", "3| 5 won 2", "3  | 5 won 2", "3 |  5 won 2",
            "3 5 won 2", "3, 5 won 2", "3 | 5 won 2 | 2 out 1", "3 | 3", "3 | 3 | 5 won 2", "5 won 2", " | 5 won 2",
            "5 won 2 | 3", "three", "three | 5 won 2", "3 / 5 won 2", "3 || 5 won 2", "3 | 5 won 2,2 out 1",
            "3 | 5 won 2, ", "3 | , 5 won 2", "3 | 5 won", "3 | 5 win 2", "3 | 05 won 2", "3 | 5 won 02", "3 | 1 2 3 4",
            "03", "03 | 5 won 2", "+3", "-3", "3.0", "3\n", "3\t| 5 won 2", "\u0663", "\u00b3", "rounds 3", "[3]", "0x3",
            " " + good, good + " ", good + "\n", good + ",", good + ", ", "3 3 | 5 won 2",
        ]
        for text in wrong:
            self.assert_error(InvalidText, Cup.read, text)

    def test_rounds_out_of_range(self):
        for rounds in (0, "00", 101, 102, 999, 1000, -1, FAR, "9" * 2990, "9" * 5000):
            self.assert_error(InvalidText, Cup.read, f"{rounds}")
            self.assert_error(InvalidText, Cup.read, f"{rounds} | 1 won 1")

    def test_claims_that_are_none_for_the_rounds(self):
        for text in ("3 | 9 won 1", "3 | 1 won 4", "3 | 1 out 4", "3 | 9 out 1", "3 | 5 won 2, 9 won 1", "1 | 3 won 1",
                     "3 | 1 won 4, 5 won 2", "1 | 1 won 2", "3 | 0 won 1", "3 | 1 won 0",
                     f"100 | {2 ** 100 + 1} won 1", "100 | 1 won 101", f"100 | {FAR} won 1", "3 | 1 won 1, 1 out 1, 9 won 1"):
            self.assert_error(InvalidText, Cup.read, text)

    def test_claims_that_do_not_fit(self):
        for text in ("3 | 1 won 1, 1 out 1", "3 | 1 won 3, 2 won 3", "1 | 1 out 1, 2 out 1", "3 | 1 won 2, 5 won 2, 2 won 1",
                     "100 | 1 won 100, 2 won 100"):
            self.assert_error(Inconsistent, Cup.read, text)

    def test_values_that_are_no_texts(self):
        for value in (None, True, False, 3, 3.0, b"3", b"3 | 5 won 2", [], ["3"], (), ("3",), {}, {"3": 3}, {"3"},
                      [3, ("won", 5, 2)], Cup(3)):
            self.assert_error(InvalidText, Cup.read, value)

    def test_read_by_an_object(self):
        cup = Cup(3)
        cup.record(("won", 5, 2))
        other = cup.read("4 | 2 won 4")
        self.assertEqual((other.favourite, cup.favourite), (2, 2))
        self.assertEqual((other.told(), cup.told()), (["rounds 4", "claims 1"], ["rounds 3", "claims 1"]))

    def test_most_rounds(self):
        self.assertEqual(Cup.MOST_ROUNDS, 100)
        self.assertEqual(Cup(3).MOST_ROUNDS, 100)
        self.assertIs(Cup.MOST_ROUNDS.__class__, int)

    def test_fits(self):
        for rounds in (1, 2, 3, 100):
            for word, seed, number in itertools.product(("won", "out"), (1, 2 ** rounds), (1, rounds)):
                self.assertIs(Cup.fits(rounds, (word, seed, number)), True)
                self.assertIs(Cup(3).fits(rounds, (word, seed, number)), True)
            for value in NO_CLAIMS + for_larger_cups(rounds) + NO_INTEGERS + (Cup(3), {("won", 1, 1)}):
                self.assertIs(Cup.fits(rounds, value), False, value)

    def test_fits_all_small_claims(self):
        for rounds in (1, 2, 3):
            for word, seed, number in itertools.product(("won", "out", "in"), range(-1, 18), range(-1, 6)):
                expected = word != "in" and 1 <= seed <= 2 ** rounds and 1 <= number <= rounds
                self.assertIs(Cup.fits(rounds, (word, seed, number)), expected)

    def test_fits_with_wrong_rounds(self):
        for rounds in (0, 101, -1, -FAR, FAR) + NO_INTEGERS:
            self.assert_error(InvalidRounds, Cup.fits, rounds, ("won", 1, 1))
            self.assert_error(InvalidRounds, Cup.fits, rounds, None)
            self.assert_error(InvalidRounds, Cup.fits, value=None, rounds=rounds)


class TestArguments(CupTestCase):
    """[2], [3] and [21]: the constructor, and arguments by name."""

    def test_wrong_rounds(self):
        for rounds in (0, 101, -1, -FAR, FAR) + NO_INTEGERS:
            self.assert_error(InvalidRounds, Cup, rounds)
            self.assert_error(InvalidRounds, Cup, rounds=rounds)

    def test_by_name(self):
        self.assertEqual(Cup(rounds=3).told(), ["rounds 3", "claims 0"])
        self.assertEqual(list(Cup(3).journey(seed=8)), [(1, 1, False)])
        self.assertEqual(Cup.read(text="3 | 8 won 3").favourite, 8)
        self.assertIs(Cup.fits(rounds=3, value=("won", 1, 1)), True)
        self.assertIs(Cup.fits(value=("won", 9, 1), rounds=3), False)

    def test_kinds_of_results(self):
        cup = Cup.read("3 | 5 won 2")
        self.assertIs(cup.claimed.__class__, tuple)
        self.assertIs(cup.free_now.__class__, int)
        self.assertIs(cup.favourite.__class__, int)
        self.assertIs(cup.told().__class__, list)
        self.assertIs(cup.undo().__class__, int)

    def test_every_seed_of_interest_has_a_journey(self):
        for rounds in (1, 64, 100):
            cup = Cup(rounds)
            for seed in few_seeds_of_interest(rounds):
                journey = list(cup.journey(seed))
                self.assertEqual([told[0] for told in journey], list(range(1, len(journey) + 1)))
                # It goes on until a better seed comes.
                self.assertEqual([told[2] for told in journey], [seed < told[1] for told in journey])
                self.assertTrue(all(told[2] for told in journey[:-1]))
                self.assertEqual(journey[-1][2], seed == 1)


if __name__ == "__main__":
    unittest.main()
