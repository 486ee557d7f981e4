import itertools
import random
import unittest

from helper import (NO_INTEGERS, PLAYED, CupTestCase, all_claims, random_ends, satisfied, upset_bits, upsets_of,
                    written_result)
from seedcup.errors import InvalidClaim, InvalidIndex, InvalidResult, InvalidRounds, TooLarge
from seedcup.results import is_result, nth_result, rank_result, satisfies

FAR = 10 ** 39


def in_order(rounds):
    """All results of a small cup, written as lists, in the order of [20], each with its ends."""
    cup = PLAYED[rounds]
    return [(written_result(rounds, ends), ends) for ends in sorted(cup.results, key=lambda x: upset_bits(rounds, x))]


IN_ORDER = {rounds: in_order(rounds) for rounds in PLAYED}


def index_of(bits):
    return int("".join(str(bit) for bit in bits), 2)


def larger_results():
    """Some results of cups of four to six rounds: tuples of the rounds, the list and the ends."""
    chance = random.Random(20)
    for rounds in (4, 5, 6):
        for _ in range(25):
            ends = random_ends(rounds, chance)
            yield rounds, written_result(rounds, ends), ends


class TestExamples(unittest.TestCase):
    """The examples of section 13."""

    def test_nth_result(self):
        self.assertEqual(nth_result(2, 1), [1, 2, 2])

    def test_rank_result(self):
        self.assertEqual(rank_result(2, [4, 2, 4]), 5)

    def test_satisfies(self):
        self.assertIs(satisfies(2, [4, 2, 4], ("won", 4, 2), ("out", 2, 2)), True)


class TestIndexes(unittest.TestCase):
    """[20]: results by their indexes."""

    def test_all_results_of_small_cups(self):
        for rounds, results in IN_ORDER.items():
            self.assertEqual(len(results), 2 ** (2 ** rounds - 1))
            for index, (result, _) in enumerate(results):
                self.assertEqual(nth_result(rounds, index), result, (rounds, index))
                self.assertEqual(rank_result(rounds, result), index, (rounds, result))

    def test_some_results_of_larger_cups(self):
        for rounds, result, ends in larger_results():
            index = index_of(upset_bits(rounds, ends))
            self.assertEqual(rank_result(rounds, result), index, (rounds, result))
            self.assertEqual(nth_result(rounds, index), result, (rounds, index))

    def test_they_undo_each_other(self):
        chance = random.Random(21)
        for rounds in (4, 5, 6):
            most = 2 ** (2 ** rounds - 1)
            indexes = [0, 1, 2, most // 2 - 1, most // 2, most - 2, most - 1]
            for index in indexes + [chance.randrange(most) for _ in range(40)]:
                result = nth_result(rounds, index)
                self.assertIs(is_result(rounds, result), True, (rounds, index))
                self.assertEqual(rank_result(rounds, result), index)

    def test_first_and_last_index(self):
        for rounds in range(1, 7):
            first, last = nth_result(rounds, 0), nth_result(rounds, 2 ** (2 ** rounds - 1) - 1)
            # Without upsets the best seeds of the blocks win; else the worst ones, and the worst is the last.
            expected = [block for stage in range(1, rounds + 1) for block in range(1, 2 ** (rounds - stage) + 1)]
            self.assertEqual(first, expected)
            self.assertEqual(rank_result(rounds, first), 0)
            self.assertEqual(rank_result(rounds, last), 2 ** (2 ** rounds - 1) - 1)
            self.assertEqual(last[:2 ** (rounds - 1)], list(range(2 ** rounds, 2 ** (rounds - 1), -1)))

    def test_one_upset(self):
        self.assertEqual(nth_result(3, 64), [8, 2, 3, 4, 4, 2, 2])
        self.assertEqual(nth_result(3, 8), [1, 2, 3, 5, 1, 2, 1])
        self.assertEqual(nth_result(3, 4), [1, 2, 3, 4, 4, 2, 2])
        self.assertEqual(nth_result(3, 1), [1, 2, 3, 4, 1, 2, 2])


class TestIsResult(CupTestCase):
    """[20]: which values are results."""

    def test_results(self):
        for rounds, results in IN_ORDER.items():
            for result, _ in results:
                self.assertIs(is_result(rounds, result), True, result)
        for rounds, result, _ in larger_results():
            self.assertIs(is_result(rounds, result), True, result)

    def test_all_lists_of_seeds_of_the_smallest_cups(self):
        for rounds in (1, 2):
            good = [result for result, _ in IN_ORDER[rounds]]
            for value in itertools.product(range(0, 2 ** rounds + 2), repeat=2 ** rounds - 1):
                self.check_value(rounds, list(value), list(value) in good)

    def check_value(self, rounds, value, good):
        self.assertIs(is_result(rounds, value), good, (rounds, value))
        if not good:
            self.assert_error(InvalidResult, rank_result, rounds, value)
            self.assert_error(InvalidResult, satisfies, rounds, value)

    def test_one_winner_replaced(self):
        good = [result for result, _ in IN_ORDER[3]]
        for result in good[::5]:
            for at in range(7):
                for winner in (*range(-1, 10), FAR, -FAR):
                    changed = result[:at] + [winner] + result[at + 1:]
                    self.check_value(3, changed, changed in good)
                for wrong in NO_INTEGERS + (float(result[at]), (result[at],), [result[at]]):
                    self.check_value(3, result[:at] + [wrong] + result[at + 1:], False)

    def test_one_winner_replaced_in_larger_cups(self):
        for rounds, result, _ in larger_results():
            for at in (0, 1, len(result) // 2, len(result) - 1):
                for wrong in (0, 2 ** rounds + 1, True, None, str(result[at])):
                    self.check_value(rounds, result[:at] + [wrong] + result[at + 1:], False)
            loser = next(seed for seed in range(1, 2 ** rounds + 1) if seed not in result)
            self.check_value(rounds, result[:-1] + [loser], False)

    def test_other_lengths(self):
        for rounds in range(1, 7):
            result = nth_result(rounds, 0)
            for value in ([], result[:-1], result[1:], result + [1], result + result, [1] + result, [result]):
                self.check_value(rounds, value, False)

    def test_a_result_of_another_cup(self):
        for rounds in range(1, 6):
            self.check_value(rounds, nth_result(rounds + 1, 0), False)
            self.check_value(rounds + 1, nth_result(rounds, 0), False)

    def test_other_kinds(self):
        for value in (None, True, False, 0, 1, "", "1", "122", b"\x01", (), (1,), (1, 2, 2), {}, {1: 1}, {0: 1}, {1},
                      range(1, 2), [None], ["1"], [[1]], [(1,)], [1.0], [True], [False], [{}], [b"\x01"]):
            for rounds in (1, 2, 3, 6):
                self.check_value(rounds, value, False)


class TestSatisfies(CupTestCase):
    """[20]: whether a result satisfies claims."""

    def test_each_claim_alone(self):
        for rounds, results in IN_ORDER.items():
            for result, ends in results:
                for claim in PLAYED[rounds].claims:
                    self.assertIs(satisfies(rounds, result, claim), satisfied(claim, ends), (rounds, result, claim))

    def test_each_claim_alone_in_larger_cups(self):
        for rounds, result, ends in larger_results():
            for claim in all_claims(rounds)[::1 if rounds == 4 else 3]:
                self.assertIs(satisfies(rounds, result, claim), satisfied(claim, ends), (rounds, result, claim))

    def test_no_claims(self):
        for rounds, results in IN_ORDER.items():
            for result, _ in results:
                self.assertIs(satisfies(rounds, result), True)

    def test_several_claims_with_a_false_one_at_each_place(self):
        chance = random.Random(22)
        cases = [(rounds, *pair) for rounds, results in IN_ORDER.items() for pair in results] + list(larger_results())
        for rounds, result, ends in cases:
            claims = {truth: [claim for claim in all_claims(rounds) if satisfied(claim, ends) == truth]
                      for truth in (True, False)}
            told = chance.choices(claims[True], k=5)
            self.assertIs(satisfies(rounds, result, *told), True, (rounds, result, told))
            for at in range(6):
                mixed = told[:at] + [chance.choice(claims[False])] + told[at:]
                self.assertIs(satisfies(rounds, result, *mixed), False, (rounds, result, mixed))

    def test_forty_claims(self):
        result = nth_result(6, 0)
        claims = [("won", 1, 6), ("out", 2, 6), ("out", 3, 5), ("won", 3, 4), ("out", 64, 1)] * 8
        self.assertIs(satisfies(6, result, *claims), True)
        self.assertIs(satisfies(6, result, *claims[:39], ("out", 1, 6)), False)

    def test_claims_that_contradict_each_other(self):
        for result, _ in IN_ORDER[2]:
            self.assertIs(satisfies(2, result, ("won", 1, 1), ("out", 1, 1)), False)

    def test_claims_agree_with_the_list_of_upsets(self):
        for rounds, result, ends in larger_results():
            self.assertEqual(rank_result(rounds, result).bit_count(), len(upsets_of(rounds, ends)))


class TestWrongArguments(CupTestCase):
    """[3] and [20]: InvalidRounds, then TooLarge, then the errors of the other parameters in their order."""

    def test_wrong_rounds(self):
        for rounds in (0, 101, -1, -FAR, FAR) + NO_INTEGERS:
            self.assert_error(InvalidRounds, is_result, rounds, [1])
            self.assert_error(InvalidRounds, is_result, rounds, None)
            self.assert_error(InvalidRounds, nth_result, rounds, 0)
            self.assert_error(InvalidRounds, nth_result, rounds, None)
            self.assert_error(InvalidRounds, rank_result, rounds, [1])
            self.assert_error(InvalidRounds, rank_result, rounds, None)
            self.assert_error(InvalidRounds, satisfies, rounds, [1], ("won", 1, 1))
            self.assert_error(InvalidRounds, satisfies, rounds, None, None)

    def test_more_than_six_rounds(self):
        for rounds in (7, 8, 64, 99, 100):
            for function, rest in ((is_result, ([1],)), (is_result, (None,)), (nth_result, (0,)), (nth_result, (-1,)),
                                   (rank_result, ([1],)), (rank_result, (None,)), (satisfies, ([1],)),
                                   (satisfies, (None, None)), (nth_result, (None,))):
                self.assert_error(TooLarge, function, rounds, *rest)
                with self.assertRaises(TooLarge) as caught:
                    function(rounds, *rest)
                self.assertEqual(caught.exception.limit, 6)

    def test_wrong_indexes(self):
        for rounds in range(1, 7):
            count = 2 ** (2 ** rounds - 1)
            nth_result(rounds, 0)
            nth_result(rounds, count - 1)
            for index in (-1, count, count + 1, -FAR, FAR) + NO_INTEGERS:
                self.assert_error(InvalidIndex, nth_result, rounds, index)

    def test_wrong_claims(self):
        wrong_claims = (None, True, 0, "", "1 won 1", [], {}, (), ("won", 1), ("won", 1, 1, 1), ["won", 1, 1],
                        ("win", 1, 1), (b"won", 1, 1), (["won"], 1, 1), ("won", 0, 1), ("won", 5, 1), ("out", 1, 0),
                        ("out", 1, 3), ("won", True, 1), ("won", 1, True), ("won", "1", 1), ("won", 1, None))
        for wrong in wrong_claims:
            for claims in ((wrong,), (wrong, ("won", 4, 2)), (("won", 4, 2), wrong), (("won", 1, 1), wrong),
                           (("won", 4, 1), wrong, ("out", 2, 2))):
                self.assert_error(InvalidClaim, satisfies, 2, [4, 2, 4], *claims)
                self.assert_error(InvalidResult, satisfies, 2, [4, 2, 3], *claims)

    def test_order_by_name(self):
        self.assert_error(InvalidRounds, is_result, value=None, rounds=0)
        self.assert_error(TooLarge, is_result, value=None, rounds=7)
        self.assert_error(InvalidRounds, nth_result, index=-1, rounds=0)
        self.assert_error(TooLarge, nth_result, index=-1, rounds=7)
        self.assert_error(InvalidRounds, rank_result, result=[], rounds=101)
        self.assert_error(InvalidResult, satisfies, result=[], rounds=1)

    def test_wrong_values_stay_as_they_are(self):
        wrong = [4, True, 4]
        self.assertIs(is_result(2, wrong), False)
        self.assert_error(InvalidResult, rank_result, 2, wrong)
        self.assert_error(InvalidResult, satisfies, 2, wrong, None)
        self.assertEqual(wrong, [4, True, 4])


class TestArguments(unittest.TestCase):
    """[1] and [2]: arguments by position and by name, new lists, and that arguments stay as they are."""

    def test_by_name(self):
        self.assertIs(is_result(rounds=2, value=[4, 2, 4]), True)
        self.assertIs(is_result(value=[4, 2, 4], rounds=2), True)
        self.assertEqual(nth_result(rounds=2, index=1), [1, 2, 2])
        self.assertEqual(nth_result(index=1, rounds=2), [1, 2, 2])
        self.assertEqual(rank_result(rounds=2, result=[4, 2, 4]), 5)
        self.assertEqual(rank_result(result=[4, 2, 4], rounds=2), 5)
        self.assertIs(satisfies(rounds=2, result=[4, 2, 4]), True)
        self.assertIs(satisfies(result=[4, 2, 4], rounds=2), True)

    def test_by_position_and_name(self):
        self.assertIs(is_result(2, value=[4, 2, 1]), False)
        self.assertEqual(nth_result(2, index=1), [1, 2, 2])
        self.assertEqual(rank_result(2, result=[4, 2, 4]), 5)

    def test_the_result_stays_as_it_is(self):
        for rounds, result, _ in larger_results():
            copy = list(result)
            is_result(rounds, result)
            rank_result(rounds, result)
            satisfies(rounds, result, ("won", 1, 1))
            self.assertEqual(result, copy)

    def test_a_returned_list_belongs_to_the_caller(self):
        first, second = nth_result(2, 1), nth_result(2, 1)
        self.assertIsNot(first, second)
        first.append(3)
        first[0] = 4
        self.assertEqual(second, [1, 2, 2])
        self.assertEqual(nth_result(2, 1), [1, 2, 2])

    def test_kinds_of_results(self):
        self.assertIs(nth_result(3, 77).__class__, list)
        self.assertEqual({winner.__class__ for winner in nth_result(3, 77)}, {int})
        self.assertIs(rank_result(1, [1]).__class__, int)


if __name__ == "__main__":
    unittest.main()
