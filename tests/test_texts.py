"""Promise 18: texts of gardens, there and back."""

import unittest

from canpath.bounds import MAX_BEDS, MAX_CAN, MAX_LITRES, MAX_PLACE
from canpath.errors import BadText
from canpath.texts import garden_text, parse_garden
from canpath.values import Load
from tests import plain
from tests.makers import G, NUMBERS, S, STRANGE, Dice, gardens_at_the_bounds, sided_gardens, some_garden, spread_garden

TWELVE = ",".join(f"{place}:1" for place in range(MAX_BEDS))
RIGHT = ("0", "2", "1:1,3:2")
# Each is wrong as any of the three words.
WRONG_WORDS = (
    "", "-", "+1", "+", "01", "00", "-0", "-01", "1_0", "1.0", "1e3", "0x1", "a", "None", "NONE", "none,", ",none",
    "1:", ":1", ":", "::", ",", "1:1,", ",1:1", "1:1,,2:1", "1:1:1", "1:1;2:1", "1,1", "--1", "1-", "\n1", "1\n", "\t1",
    "1\t", "1\r", "1\x0b", "1\xa0", "\u0661", "\u00b2", "\uff11", "1\u20002", "\u2160", "1" * 11, "1" * 2000,
    "1:\u0661", "\u0661:1", "\uff11:\uff11", "1:1\n", "1:01", "01:1", "-0:1", "1:-1", "1:+1", "+1:1", "1:0", "1:1_0",
    f"{MAX_PLACE + 1}:1", f"{-MAX_PLACE - 1}:1", f"1:{MAX_LITRES + 1}", "3:2,1:1", "1:1,1:1", "1:1,1:2", "-1:1,-2:1",
    TWELVE + ",99:1", "1:1,2", "1,2:1", "nonenone", "none:none", "True", "[]", "()",
)


class TextCase(unittest.TestCase):
    def check_refused(self, value, index):
        with self.subTest(value=repr(value)[:200]):
            with self.assertRaises(BadText) as caught:
                parse_garden(value)
            self.assertEqual((caught.exception.index, type(caught.exception.index)), (index, type(index)))

    def check(self, value):
        """The value is taken exactly if it is a text of a garden, and is then the text of what is returned."""
        error = plain.text_error(value)
        if error is None:
            with self.subTest(value=value):
                garden = parse_garden(value)
                self.assertIsNone(plain.garden_error(garden))
                self.assertEqual(garden_text(garden), value)
        else:
            self.check_refused(value, error[0])


class ThereAndBack(TextCase):
    def test_gardens(self):
        gardens = sided_gardens(1, each=2) + gardens_at_the_bounds() + [S, G, (0, 1, ()), (-7, 1, ())]
        gardens += [spread_garden(many, tap) for many in range(MAX_BEDS + 1) for tap in (-MAX_PLACE, 0, MAX_PLACE)]
        for garden in gardens:
            text = garden_text(garden)
            self.assertIs(type(text), str)
            self.assertEqual(parse_garden(text), garden)
            self.check(text)

    def test_texts(self):
        self.assertEqual(garden_text((-MAX_PLACE, MAX_CAN, ((-MAX_PLACE, MAX_LITRES), (0, 1), (MAX_PLACE, 10)))),
                         "-1000000 1000000 -1000000:1000000000,0:1,1000000:10")
        self.assertEqual(parse_garden("-3 10 -1:100,0:7"), (-3, 10, ((-1, 100), (0, 7))))
        self.assertEqual(parse_garden("0 1 none"), (0, 1, ()))


class WrongTexts(TextCase):
    def test_wrong_words(self):
        for word in WRONG_WORDS:
            if plain.written(word) is None or abs(int(word)) > MAX_PLACE:
                self.check_refused(f"{word} 2 1:1,3:2", 0)
                self.check_refused(f"0 {word} 1:1,3:2", 1)
            self.check_refused(f"0 2 {word}", 2)
            for words in ((word,), (word, word), ("0", word), (word, word, word), ("0", "2", "none", word)):
                self.check(" ".join(words))

    def test_words_for_another_place(self):
        for value, index in (("1:1 2 none", 0), ("none 2 none", 0), ("0 none 1:1", 1), ("0 1:1 none", 1), ("0 2 3", 2)):
            self.check_refused(value, index)

    def test_numbers_at_and_beyond_the_limits(self):
        for number in NUMBERS + (MAX_PLACE - 1, MAX_PLACE + 1, -MAX_PLACE + 1, MAX_CAN - 1, MAX_LITRES - 1):
            self.check(f"{number} 2 none")
            self.check(f"0 {number} none")
            self.check(f"0 2 {number}:1")
            self.check(f"0 2 1:{number}")
            self.check(f"0 2 {-MAX_PLACE}:1,{number}:{number}")
        self.check_refused("0 0 none", 1)
        self.check_refused("0 -1 none", 1)
        self.check_refused(f"0 {MAX_CAN + 1} none", 1)
        self.check_refused(f"{MAX_PLACE + 1} 2 none", 0)

    def test_more_and_fewer_words(self):
        for value, index in (("", 0), (" ", 0), ("  ", 0), ("   ", 0), ("0", 1), ("0 2", 2), ("0 ", 1), ("0 2 ", 2),
                             ("x", 0), ("0 x", 1), ("0 2 none ", 3), ("0 2 none 0", 3), ("0 2 none 0 2 none", 3),
                             ("0 2 none  ", 3), ("0 2 x 0", 2), ("x 2 none 0", 0), ("0 0 x", 1), ("x x", 0)):
            self.check_refused(value, index)

    def test_spaces(self):
        for value, index in ((" 0 2 none", 0), ("0  2 none", 1), ("0 2  none", 2), ("0 2 none ", 3),
                             ("0 2 1:1, 3:2", 2), ("0 2 1: 1", 2), ("- 1 2 none", 0), ("  0 2 none", 0)):
            self.check_refused(value, index)
        for space in ("\n", "\t", "\r", "\x0b", "\x0c", "\xa0", "\u2003", "\n ", " \n"):
            for at in range(len("0 2 1:1,3:2") + 1):
                text = "0 2 1:1,3:2"
                self.check(text[:at] + space + text[at:])
            self.check(space.join(RIGHT))

    def test_twelve_and_thirteen_beds(self):
        self.check(f"0 2 {TWELVE}")
        self.assertEqual(len(parse_garden(f"0 2 {TWELVE}")[2]), MAX_BEDS)
        self.check_refused(f"0 2 {TWELVE},{MAX_BEDS}:1", 2)

    def test_values_that_are_not_texts(self):
        for value in STRANGE + NUMBERS + (S, G, ["0 2 none"], ("0", "2", "none"), b"0 2 none", Load(())):
            if not isinstance(value, str):
                self.check_refused(value, None)
            else:
                self.check(value)


class ChangedTexts(TextCase):
    def test_one_sign_more_less_or_another(self):
        dice = Dice(2)
        texts = ["0 2 1:1,3:2", "-7 1 none", "-10 20 -12:30,-1:9,0:1,100:10"]
        texts += [garden_text(some_garden(dice, many)) for many in (1, 2, 4)]
        for text in texts:
            for at in range(len(text) + 1):
                self.check(text[:at] + text[at + 1:])
                self.check(text[:at] + text[at:at + 1] + text[at:])
                for sign in "019-+:, _n\n\u0661":
                    self.check(text[:at] + sign + text[at:])
                    self.check(text[:at] + sign + text[at + 1:])

    def test_words_mixed(self):
        dice = Dice(3)
        words = RIGHT + ("none", "-1", "0:1", "", "-0", "x", "1000001")
        for _ in range(3000):
            self.check(" ".join(dice.pick(words) for _ in range(1 + dice.throw(5))))


if __name__ == "__main__":
    unittest.main()
