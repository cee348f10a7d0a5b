"""[30]: texts of contents, wishes and rows."""

import itertools
import random
import unittest

from tests.samples import ANYTHING, NO_NUMBERS, NO_STEP_WORDS, TOP, bad_cells, bad_now, bad_now_text, bad_row
from tests.samples import bad_row_text, bad_wish, bad_wish_text
from valuesmoved.errors import InvalidNow, InvalidNumber, InvalidRow, InvalidText, InvalidWish, MoveError
from valuesmoved.texts import format_now, format_row, format_wish, parse_now, parse_row, parse_wish

NUMBERS = [0, 1, -1, 7, -7, 10, -10, 100, 909, 10 ** 29, -(10 ** 29), TOP - 1, 1 - TOP, TOP, -TOP]
# Sixty values of thirty figures each.
LONG = [(-1) ** cell * (10 ** 29 + 10 ** 27 * cell + 7) for cell in range(60)]
STEPS = [(word, a, b) for word in ("move", "swap") for a, b in itertools.permutations(range(3), 2)]


class FormatTest(unittest.TestCase):
    def test_example(self):
        found = [format_row(3, [("move", 0, 2), ("swap", 1, 2)]), format_wish([1, 2], [None, -7]), parse_now("5 -6 5"),
                 parse_row(3, "0>2 1=2"), parse_row(3, ""), parse_wish([1, 2], "2 -")]
        self.assertEqual(found, ["0>2 1=2", "- -7", [5, -6, 5], [("move", 0, 2), ("swap", 1, 2)], [], [2, None]])
        with self.assertRaises(InvalidText) as caught:
            parse_row(3, "0>2 1>3")
        self.assertEqual(caught.exception.place, 1)

    def test_each_number(self):
        for number in NUMBERS:
            self.assertEqual(format_now([number]), str(number))
            self.assertEqual(format_wish([0], [number]), str(number))
            self.assertEqual(format_now([1, number, 2]), f"1 {number} 2")
        self.assertEqual(format_wish([0], [None]), "-")
        self.assertEqual(format_wish([0, 0, 0], [None, 0, None]), "- 0 -")

    def test_each_step(self):
        for word, a, b in STEPS:
            sign = ">" if word == "move" else "="
            self.assertEqual(format_row(3, [(word, a, b)]), f"{a}{sign}{b}")
        self.assertEqual(format_row(60, [("move", 59, 0), ("swap", 10, 59)]), "59>0 10=59")
        self.assertEqual([format_row(1, []), format_row(60, [])], ["", ""])

    def test_numbers_read(self):
        for number in NUMBERS:
            self.assertEqual(parse_now(str(number)), [number])
            self.assertIs(type(parse_now(str(number))[0]), int)
            self.assertEqual(parse_wish([0, 0], f"- {number}"), [None, number])

    def test_what_is_written_is_read_back(self):
        chance = random.Random(47)
        for cells in (1, 2, 3, 10, 59, 60):
            for _ in range(10):
                now = chance.choices(LONG + NUMBERS, k=cells)
                wish = chance.choices([*LONG, *NUMBERS, *[None] * 30], k=cells)
                self.assertEqual(parse_now(format_now(now)), now)
                self.assertEqual(parse_wish(now, format_wish(now, wish)), wish)
                self.assertEqual(format_now(parse_now(" ".join(map(str, now)))), " ".join(map(str, now)))
                many = chance.choice([0, 1, 2, 199, 200]) if cells > 1 else 0
                row = [(chance.choice(["move", "swap"]), *chance.sample(range(cells), 2)) for _ in range(many)]
                self.assertEqual(parse_row(cells, format_row(cells, row)), row)

    def test_the_longest(self):
        self.assertEqual(format_now(LONG).count(" "), 59)
        self.assertEqual(parse_now(" ".join(["7"] * 60)), [7] * 60)
        self.assertEqual(parse_wish([0] * 60, " ".join(["-"] * 60)), [None] * 60)
        self.assertEqual(parse_row(2, " ".join(["0>1"] * 200)), [("move", 0, 1)] * 200)
        self.assertEqual(format_row(2, [("swap", 1, 0)] * 200), " ".join(["1=0"] * 200))

    def test_each_answer_is_new(self):
        for parsed in (parse_now("1 2"), parse_wish([1, 2], "1 2"), parse_row(2, "0>1"), parse_row(2, "")):
            parsed.append("more")
        self.assertEqual([parse_now("1 2"), parse_wish([1, 2], "1 2"), parse_row(2, "0>1"), parse_row(2, "")],
                         [[1, 2], [1, 2], [("move", 0, 1)], []])


class ErrorsTest(unittest.TestCase):
    def raised(self, function, *arguments):
        with self.assertRaises(MoveError) as caught:
            function(*arguments)
        return type(caught.exception), vars(caught.exception)

    def check_place(self, place, function, *arguments):
        self.assertEqual(self.raised(function, *arguments), (InvalidText, {"place": place}), arguments)

    def test_no_strings(self):
        for value in ANYTHING:
            if not isinstance(value, str):
                self.check_place(None, parse_now, value)
                self.check_place(None, parse_wish, [1, 2], value)
                self.check_place(None, parse_row, 3, value)

    def test_wrong_words(self):
        for text, place in bad_now_text():
            self.check_place(place, parse_now, text)
        for text, place in bad_wish_text():
            self.check_place(place, parse_wish, [1, 2, 3], text)
        for text, place in bad_row_text():
            self.check_place(place, parse_row, 3, text)

    def test_each_wrong_word_at_each_place(self):
        for word, place in itertools.product(NO_NUMBERS, (0, 1, 30, 59)):
            words = ["1"] * 60
            words[place] = word
            self.check_place(place, parse_now, " ".join(words))
            self.check_place(place, parse_wish, LONG, " ".join(words))
            self.check_place(place, parse_wish, LONG, " ".join([*words, "1"]))
        for word, place in itertools.product(NO_STEP_WORDS, (0, 1, 100, 199)):
            words = ["0>1"] * 200
            words[place] = word
            self.check_place(place, parse_row, 3, " ".join(words))

    def test_too_many(self):
        for word in ("1", "x", "", "-"):
            self.check_place(60, parse_now, "1 " * 60 + word)
            self.check_place(60, parse_wish, LONG, "- " * 60 + word)
            self.check_place(2, parse_wish, [1, 2], "1 2 " + word)
            self.check_place(1, parse_wish, [1], "- " + word + " x")
        for word in ("0>1", "x", ""):
            self.check_place(200, parse_row, 2, "0>1 " * 200 + word)

    def test_too_few(self):
        for many in (1, 2, 30, 59):
            self.check_place(many, parse_wish, LONG, " ".join(["-"] * many))
            self.check_place(many - 1, parse_wish, LONG, " ".join([*["-"] * (many - 1), "x"]))
        self.check_place(0, parse_wish, [1], "")
        self.check_place(1, parse_wish, [1, 2], "1")

    def test_empty_words(self):
        self.assertEqual(parse_row(2, ""), [])
        self.check_place(0, parse_now, "")
        self.check_place(0, parse_wish, [1, 2], "")
        self.check_place(0, parse_row, 2, " ")
        self.check_place(1, parse_row, 2, "0>1 ")
        self.check_place(1, parse_row, 2, "0>1  0>1")
        self.check_place(1, parse_now, "1 ")
        self.check_place(1, parse_now, "1  2")
        self.check_place(1, parse_wish, [1], "1 ")

    def test_one_beyond_each_limit(self):
        for number in (TOP + 1, -TOP - 1):
            self.check_place(0, parse_now, str(number))
            self.check_place(1, parse_wish, [1, 2], f"- {number}")
        self.check_place(0, parse_row, 2, "0>2")
        self.check_place(0, parse_row, 59, "59=0")
        self.check_place(0, parse_row, 1, "0>0")

    def test_the_parameters_ahead(self):
        for now, index in bad_now():
            self.assertEqual(self.raised(format_now, now), (InvalidNow, {"index": index}))
            self.assertEqual(self.raised(format_wish, now, None), (InvalidNow, {"index": index}))
            self.assertEqual(self.raised(parse_wish, now, None), (InvalidNow, {"index": index}))
        for wish, index in bad_wish():
            self.assertEqual(self.raised(format_wish, [1, 2, 3], wish), (InvalidWish, {"index": index}))
        for cells, _ in bad_cells():
            self.assertEqual(self.raised(format_row, cells, None)[0], InvalidNumber)
            self.assertEqual(self.raised(parse_row, cells, None)[0], InvalidNumber)
        for row, index in bad_row():
            self.assertEqual(self.raised(format_row, 3, row), (InvalidRow, {"index": index}))
        self.assertEqual(self.raised(format_row, 2, [("swap", 0, 1)] * 201), (InvalidRow, {"index": None}))


if __name__ == "__main__":
    unittest.main()
