import random
import unittest

from helper import NO_INTEGERS, CupTestCase, bracket_by_rule
from seedcup.draws import nth_draw
from seedcup.errors import InvalidClaims, InvalidDraw, InvalidText
from seedcup.texts import format_claims, format_draw, parse_claims, parse_draw

FAR = 10 ** 39
FARTHEST = 10 ** 40 - 1

# Values that are no texts at all.
NO_TEXTS = (None, True, False, 0, 1, 12, 1.5, b"", b"1 2", b"1 won 1", [], ["1 2"], ["1 won 1"], [("won", 1, 1)],
            (), ("1 2",), ("won", 1, 1), {}, {"1 2": 1}, [1, 2], {"1 won 1"})


def random_number(chance):
    return chance.randint(1, 10 ** chance.randint(1, 40) - 1)


def random_claim(chance):
    return chance.choice(("won", "out")), random_number(chance), random_number(chance)


def written(claims):
    """The text of claims, put together word by word."""
    text = ""
    for word, seed, number in claims:
        if text:
            text += ", "
        text += str(seed) + " " + word + " " + str(number)
    return text


class TestExamples(unittest.TestCase):
    """The examples of section 16."""

    def test_format_claims(self):
        self.assertEqual(format_claims([("won", 5, 2), ("out", 1, 2)]), "5 won 2, 1 out 2")

    def test_parse_draw(self):
        self.assertEqual(parse_draw("1 4 2 3"), [1, 4, 2, 3])


class TestClaims(CupTestCase):
    """[24] on lists of claims."""

    def check_claims(self, claims):
        text = written(claims)
        self.assertEqual(format_claims(claims), text)
        self.assertEqual(parse_claims(text), claims)

    def test_no_claims(self):
        self.assertEqual(format_claims([]), "")
        self.assertEqual(parse_claims(""), [])

    def test_single_claims(self):
        for number in (1, 2, 9, 10, 11, 99, 100, 101, 109, 110, 1000, 2 ** 100, FAR, FAR + 1, FARTHEST):
            for other in (1, 10, FARTHEST):
                for word in ("won", "out"):
                    self.check_claims([(word, number, other)])
                    self.check_claims([(word, other, number)])

    def test_lists(self):
        chance = random.Random(24)
        for size in list(range(2, 12)) + [40, 130]:
            for _ in range(10):
                self.check_claims([random_claim(chance) for _ in range(size)])

    def test_claims_that_do_not_fit_or_are_equal(self):
        self.check_claims([("won", 1, 1), ("out", 1, 1), ("won", 1, 1)])

    def test_long_texts(self):
        claims = [("won", 10 ** 12 + at, 7) for at in range(142)]
        text = written(claims)
        self.assertTrue(2900 < len(text) <= 3000, len(text))
        self.check_claims(claims)
        self.check_claims([("out", 1, 1)] * 333)
        self.assertEqual(parse_claims("9" * 2990 + " won 1"), [("won", 10 ** 2990 - 1, 1)])

    def test_claims_are_tuples_of_plain_values(self):
        for claim in parse_claims("5 won 2, 1 out 2"):
            self.assertEqual([value.__class__ for value in (claim, *claim)], [tuple, str, int, int])

    def test_wrong_texts(self):
        good = "5 won 2, 1 out 2"
        wrong = [good + end for end in (",", ", ", " ", "\n", ".", ", 3", ", 3 won", ", 3 won ", ",3 won 1", " 3 won 1",
                                        ";3 won 1", ",  3 won 1", " , 3 won 1", ", , 3 won 1", ",, 3 won 1", "\t")]
        wrong += [start + good for start in (",", ", ", " ", "\n", "won", "0", "+", "-", "3 ", "()", "\t")]
        for text in wrong + WRONG_CLAIMS:
            self.assert_error(InvalidText, parse_claims, text)
            self.assert_error(InvalidText, parse_claims, "7 out 1, " + text)
            self.assert_error(InvalidText, parse_claims, text + ", 7 out 1")

    def test_the_empty_text_is_no_part(self):
        for text in (",", ", ", "1 won 1, ", ", 1 won 1", "1 won 1, , 2 won 1", " "):
            self.assert_error(InvalidText, parse_claims, text)

    def test_texts_of_other_things(self):
        for text in ("1 4 2 3", "3 | 5 won 2", "| 5 won 2", "5 won 2 | 1 out 2", "[('won', 5, 2)]", "('won', 5, 2)"):
            self.assert_error(InvalidText, parse_claims, text)

    def test_values_that_are_no_texts(self):
        for value in NO_TEXTS:
            self.assert_error(InvalidText, parse_claims, value)

    def test_wrong_lists(self):
        no_claims = [
            None, True, 0, "", "5 won 2", b"won", [], {}, (), ("won",), ("won", 1), ("won", 1, 1, 1), ["won", 1, 1],
            [("won", 1, 1)], (("won", 1, 1),), ("win", 1, 1), ("WON", 1, 1), ("", 1, 1), (" won", 1, 1), (b"won", 1, 1),
            (None, 1, 1), (True, 1, 1), (["won"], 1, 1), (1, "won", 1), (1, 1, "won"), ("won", 0, 1), ("out", 1, 0),
            ("won", -1, 1), ("out", 1, -1), ("won", -FAR, 1), ("out", 1, -FAR), ("won", 1.0, 1), ("won", 1, 1.0),
        ]
        no_claims += [("won", value, 1) for value in NO_INTEGERS] + [("out", 1, value) for value in NO_INTEGERS]
        for wrong in no_claims:
            for claims in ([wrong], [("won", 1, 1), wrong], [wrong, ("won", 1, 1)], [("won", 1, 1), wrong, ("out", 1, 1)]):
                self.assert_error(InvalidClaims, format_claims, claims)

    def test_values_that_are_no_lists(self):
        for value in (None, True, False, 0, 1, "", "5 won 2", b"", (), (("won", 1, 1),), ("won", 1, 1), {},
                      {("won", 1, 1): 1}, {("won", 1, 1)}):
            self.assert_error(InvalidClaims, format_claims, value)


# Texts that are no list of claims, and no part of one.
WRONG_CLAIMS = [
    # a word or a number is missing, or there is one too many
    "5", "won", "5 won", "won 2", "5 2", "5 won 2 3", "5 5 won 2", "5 won won 2", "5 won out 2", "5 2 won", "won 5 2",
    # spaces
    "5won 2", "5 won2", "5won2", "5  won 2", "5 won  2", " 5 won 2", "5 won 2 ", "5\twon 2", "5 won\n2", "5, won 2",
    "5,won,2", "5_won_2",
    # other words
    "5 win 2", "5 Won 2", "5 WON 2", "5 lost 2", "5 w 2", "5 wonn 2", "5 onw 2", "5 1 2", "5 'won' 2", "5 out. 2",
    # numbers
    "0 won 1", "1 won 0", "00 won 1", "05 won 2", "5 won 02", "005 won 2", "+5 won 2", "5 won +2", "-5 won 2", "5 won -2",
    "5.0 won 2", "5 won 2.", "5e1 won 2", "0x5 won 2", "1_0 won 2", "five won 2", "5 won two", "True won 1", "1 won True",
    "None won 1", "(5) won 2", "'5' won 2",
    # digits of other scripts, and signs that look like digits
    "\u0665 won 2", "5 won \u0662", "\u00b2 won 1", "1 won \u00b2", "\uff15 won 2", "\u2460 won 1",
    "5\u00a0won 2", "5 won\u20032",
]


class TestDraws(CupTestCase):
    """[24] on draws."""

    def test_draws(self):
        chance = random.Random(25)
        for rounds in range(1, 8):
            draws = [bracket_by_rule(rounds), list(range(1, 2 ** rounds + 1)), list(range(2 ** rounds, 0, -1))]
            draws += [chance.sample(draws[0], 2 ** rounds) for _ in range(5)]
            for draw in draws:
                text = ""
                for seed in draw:
                    text += (" " if text else "") + str(seed)
                self.assertEqual(format_draw(draw), text)
                self.assertEqual(parse_draw(text), draw)

    def test_wrong_texts(self):
        wrong = [
            # spaces and other signs between the seeds
            " 1 4 2 3", "1 4 2 3 ", "1  4 2 3", "1 4\t2 3", "1 4 2 3\n", "1, 4, 2, 3", "1,4,2,3", "1423", "[1, 4, 2, 3]",
            "1 4 2 3,", "1-4-2-3",
            # numbers
            "01 4 2 3", "1 04 2 3", "1 4 2 03", "+1 4 2 3", "1 +4 2 3", "-1 4 2 3", "1.0 4 2 3", "1 4 2 3.", "one 4 2 3",
            "True 2", "1 4 2 \u0663", "\u00b9 2", "1 \u00b2", "1\u00a02", "1 4 2 0x3",
            # no draws
            "", " ", "1", "0", "0 1", "1 1", "2 2", "1 3", "2 3", "1 2 3", "1 4 2", "1 4 2 2", "1 4 2 5", "0 3 1 2",
            "1 4 2 3 5", "1 6 2 5 3 4", "1 4 2 " + str(FAR), "1 " + "9" * 2990,
            # other texts
            "1 won 1", "1 won 1, 2 out 1", "won", "3 | 1 won 1",
        ]
        for text in wrong:
            self.assert_error(InvalidText, parse_draw, text)

    def test_draws_that_are_too_short_or_too_long(self):
        for count in (1, 3, 5, 6, 7, 9, 127, 129, 256, 500):
            self.assert_error(InvalidText, parse_draw, " ".join(str(seed) for seed in range(1, count + 1)))
            self.assert_error(InvalidDraw, format_draw, list(range(1, count + 1)))

    def test_values_that_are_no_texts(self):
        for value in NO_TEXTS:
            self.assert_error(InvalidText, parse_draw, value)

    def test_wrong_draws(self):
        wrong = [None, True, False, 0, 1, "", "1 2", b"\x01\x02", (), (1, 2), {}, {1: 2, 2: 1}, {1, 2}, range(1, 3),
                 [], [1], [0, 1], [1, 1], [2, 2], [1, 3], [2, 3], [1, 2, 3], [1, 2, 3, 5], [-1, 1], [1, -2], [True, 2],
                 [2, True], [1, None], ["1", "2"], [1, "2"], [1.0, 2], [[1], [2]], [[1, 2]], [1, (2,)], [1, {}]]
        for value in wrong:
            self.assert_error(InvalidDraw, format_draw, value)


class TestLongNumbers(CupTestCase):
    """Texts that are longer than Python reads as one number at once."""

    def test_they_are_no_draws(self):
        self.assert_error(InvalidText, parse_draw, "9" * 5000)
        self.assert_error(InvalidText, parse_draw, "1 " + "9" * 5000)

    def test_they_are_no_claims_without_a_word(self):
        self.assert_error(InvalidText, parse_claims, "9" * 5000)
        self.assert_error(InvalidText, parse_claims, "0" * 5000 + " won 1")


class TestArguments(unittest.TestCase):
    """[1] and [2]: arguments by name, new lists, and that arguments stay as they are."""

    def test_by_name(self):
        self.assertEqual(format_claims(claims=[("won", 5, 2)]), "5 won 2")
        self.assertEqual(format_draw(draw=[1, 4, 2, 3]), "1 4 2 3")
        self.assertEqual(parse_claims(text="5 won 2"), [("won", 5, 2)])
        self.assertEqual(parse_draw(text="1 4 2 3"), [1, 4, 2, 3])

    def test_arguments_stay_as_they_are(self):
        claims, draw = [("won", 5, 2), ("out", 1, 2)], nth_draw(3, 77)
        copy = list(draw)
        format_claims(claims)
        format_draw(draw)
        self.assertEqual(claims, [("won", 5, 2), ("out", 1, 2)])
        self.assertEqual(draw, copy)

    def test_a_returned_list_belongs_to_the_caller(self):
        for parse, text in ((parse_claims, "5 won 2"), (parse_claims, ""), (parse_draw, "1 4 2 3")):
            first, second = parse(text), parse(text)
            self.assertIsNot(first, second)
            first.append(1)
            self.assertNotEqual(first, second)
            self.assertEqual(parse(text), second)

    def test_kinds_of_results(self):
        self.assertIs(format_claims([]).__class__, str)
        self.assertIs(format_draw([1, 2]).__class__, str)
        self.assertEqual({seed.__class__ for seed in parse_draw("2 1")}, {int})


if __name__ == "__main__":
    unittest.main()
