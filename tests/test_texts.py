"""Texts: written, read again, and refused [28]."""

import random
import unittest
from fractions import Fraction

from drawn import KINDLESS, KINDS, samples
from limbtables.drawings import Drawing
from limbtables.errors import LimbError, NoDrawing, NoText
from limbtables.grounds import Ground
from limbtables.standings import Standing
from limbtables.texts import (read_drawing, read_number, read_standing, show_drawing, show_number, show_standing,
                              show_table)
from reckoned import fields, nothing_on
from samples import GROUNDS, HUGE, PRIMES, sample, standing_of, unit

FRACTIONS = Ground(0)
FIVE = Ground(5)
THIRTY = "9" * 30


class Refusing(unittest.TestCase):
    def refused(self, error, deed, *given):
        with self.subTest(given[-1]), self.assertRaises(error) as caught:
            deed(*given)
        self.assertIsInstance(caught.exception, LimbError)


class Numbers(Refusing):
    def test_written(self):
        for number, text in (((0, 1), "0"), ((5, 1), "5"), ((-5, 1), "-5"), ((1, 2), "1/2"), ((-7, 3), "-7/3"),
                             ((HUGE, 1), THIRTY), ((-HUGE, HUGE - 1), f"-{THIRTY}/{'9' * 29}8"), ((10, 1), "10")):
            self.assertEqual(show_number(FRACTIONS, number), text)
            self.assertEqual(read_number(FRACTIONS, text), number)
        for prime in PRIMES:
            for number in range(prime):
                self.assertEqual(show_number(Ground(prime), number), str(number))
                self.assertEqual(read_number(Ground(prime), str(number)), number)

    def test_written_and_read_again(self):
        chance = random.Random(1)
        for _ in range(300):
            bound = chance.choice([3, 100, HUGE])
            number = FRACTIONS.number(chance.randint(-bound, bound), chance.randint(1, bound))
            self.assertEqual(read_number(FRACTIONS, show_number(FRACTIONS, number)), number)

    def test_long_ones_are_written(self):
        """Numbers have as many figures as they need, more than Python writes at once too."""
        for many in (31, 63, 64, 65, 127, 128, 129, 192, 1000, 4299, 4300, 4301, 9000):
            nines = 10 ** many - 1
            ones = nines // 9
            self.assertEqual(show_number(FRACTIONS, (ones, 1)), "1" * many)
            self.assertEqual(show_number(FRACTIONS, (-ones, 1)), "-" + "1" * many)
            self.assertEqual(show_number(FRACTIONS, (10 ** many, 1)), "1" + "0" * many)
            self.assertEqual(show_number(FRACTIONS, (10 ** many + 7, 1)), "1" + "0" * (many - 1) + "7")
            self.assertEqual(show_number(FRACTIONS, (1, nines)), "1/" + "9" * many)

    def test_read_but_not_written(self):
        for text, number in (("2/4", (1, 2)), ("-2/4", (-1, 2)), ("4/2", (2, 1)), ("5/1", (5, 1)), ("0/7", (0, 1)),
                             ("0/1", (0, 1)), ("-6/3", (-2, 1)), (f"{THIRTY}/{THIRTY}", (1, 1)),
                             (f"-{THIRTY}/1", (-HUGE, 1)), ("10/100", (1, 10))):
            self.assertEqual(read_number(FRACTIONS, text), number)
        for text, number in (("5", 0), ("6", 1), ("-1", 4), ("-5", 0), ("-6", 4), ("1/2", 3), ("-1/2", 2), ("2/4", 3),
                             ("0/3", 0), ("7/6", 2), ("4/1", 4), (THIRTY, HUGE % 5), (f"-{THIRTY}", -HUGE % 5),
                             (f"1/{THIRTY}", 4), ("5/4", 0), ("10/3", 0)):
            self.assertEqual(read_number(FIVE, text), number)
        for prime in PRIMES:
            ground = Ground(prime)
            self.assertEqual(read_number(ground, "-1"), prime - 1)
            self.assertEqual(read_number(ground, str(prime)), 0)
            self.assertEqual(read_number(ground, str(prime + 1)), 1)
            self.assertEqual(read_number(ground, f"1/{prime + 1}"), 1)

    def test_held_against_fractions(self):
        chance = random.Random(2)
        for _ in range(200):
            top, bottom = chance.randint(-50, 50), chance.randint(1, 50)
            due = Fraction(top, bottom)
            self.assertEqual(read_number(FRACTIONS, f"{top}/{bottom}"), (due.numerator, due.denominator))
            if bottom % 7:
                self.assertEqual(read_number(Ground(7), f"{top}/{bottom}") * bottom % 7, top % 7)
            else:
                self.refused(NoText, read_number, Ground(7), f"{top}/{bottom}")

    def test_not_read(self):
        for text in ("", "-", "-0", "-0/1", "-0/5", "00", "01", "007", "-01", "0/01", "1/02", "1/0", "0/0", "-1/0",
                     "1/-2", "1/-1", "-1/-2", "/", "1/", "/2", "-/2", "1//2", "1/2/3", "+1", "1/+2", "--1", " 1", "1 ",
                     "1 /2", "1/ 2", " ", "a", "1a", "a1", "0x1", "1e3", "1.0", "1,0", "1_0", "(1, 2)", "one", "1;",
                     "1:", ">", THIRTY + "9", "-" + THIRTY + "9", "1/" + THIRTY + "9", "1" + "0" * 30, "0" * 30, "- 1",
                     "1-", "-1-", "1/2-", "~", "!", "1\\", "None", "True"):
            for ground in GROUNDS:
                self.refused(NoText, read_number, ground, text)

    def test_bottoms_that_the_prime_divides(self):
        for prime in PRIMES:
            ground = Ground(prime)
            for text in (f"1/{prime}", f"0/{prime}", f"{prime}/{prime}", f"1/{prime * prime}", f"-1/{prime * 2}",
                         f"{prime + 1}/{prime * 3}"):
                self.refused(NoText, read_number, ground, text)
                read_number(FRACTIONS, text)


class Tables(unittest.TestCase):
    def test_written(self):
        self.assertEqual(show_table(FIVE, (2, 3, [[1, 2, 3], [4, 0, 1]])), "1 2 3 / 4 0 1")
        self.assertEqual(show_table(FIVE, (1, 1, [[4]])), "4")
        self.assertEqual(show_table(FIVE, (1, 3, [[4, 0, 0]])), "4 0 0")
        self.assertEqual(show_table(FIVE, (3, 1, [[4], [0], [0]])), "4 / 0 / 0")
        self.assertEqual(show_table(FRACTIONS, (2, 2, [[(1, 2), (0, 1)], [(-3, 4), (5, 1)]])), "1/2 0 / -3/4 5")

    def test_without_rows_or_columns(self):
        for ground in GROUNDS:
            for table in ((0, 0, []), (0, 3, []), (3, 0, [[], [], []])):
                self.assertEqual(show_table(ground, table), "-")


class Drawings(Refusing):
    def test_written(self):
        for many, arrows, text in ((3, [(0, 1), (2, 1)], "3: 0>1 2>1"), (1, [], "1:"), (8, [], "8:"),
                                   (1, [(0, 0)], "1: 0>0"), (2, [(0, 1), (0, 1), (1, 0)], "2: 0>1 0>1 1>0"),
                                   (8, [(7, 0)], "8: 7>0")):
            self.assertEqual(show_drawing(Drawing(many, arrows)), text)
            found = read_drawing(text)
            self.assertIs(type(found), Drawing)
            self.assertEqual((found.many, found.arrows), (many, arrows))

    def test_written_and_read_again(self):
        for many, arrows in list(samples(3, 200)) + KINDLESS + [shape for kind, shape in KINDS]:
            found = read_drawing(show_drawing(Drawing(many, arrows)))
            self.assertEqual((found.many, found.arrows), (many, arrows))

    def test_not_read(self):
        for text in ("", ":", "3", "3 :", " 3:", "3: ", "3:  0>1", "3:0>1", "3: 0>1 ", "3: 0>1  2>1", "3: 0 >1",
                     "3: 0> 1", "3: 0>1,2>1", "3: 0-1", "3: 01", "3: 0>", "3: >1", "3: >", "3: 0>>1", "3: 0<1",
                     "3: 0>1>2", "03: 0>1", "3: 00>1", "3: 0>01", "-1:", "3: -1>0", "3: 0>-1", "+3:", "3: +0>1",
                     "3:: 0>1", "3; 0>1", "3: 0>1;", "a:", "3: a>b", "3: 0>1 2", "3. 0>1", "3/1:", "3: 0/1>1",
                     "3:\\n0>1", THIRTY + "9:", f"3: 0>{THIRTY}9", f"3: {THIRTY}9>0", "3:: ", " ", "3: :", "none",
                     "3: 0>1 :", "3: 0>1:", "-0:", "3: 0>1 2>1 x", "0x3:", "three:", "3: (0, 1)"):
            self.refused(NoText, read_drawing, text)

    def test_written_so_but_no_drawing(self):
        for text in ("0:", "9:", "10:", THIRTY + ":", "2: 0>2", "2: 2>0", "1: 0>1", "1: 1>1", f"3: 0>{THIRTY}",
                     "0: 0>0", "2:" + " 0>1" * 10, "1:" + " 0>0" * 50, "9: 0>1", "8: 0>8", "8: 0>1 1>9"):
            self.refused(NoDrawing, read_drawing, text)
        read_drawing("2:" + " 0>1" * 9)

    def test_which_refusal_comes_first(self):
        """What is not so written is told ahead of what is no drawing."""
        for text in ("9: x", "0: 0>1 ", "2: 5>5 1", "9: 0>01", "10:0>1", "2: 7>7  0>1"):
            self.refused(NoText, read_drawing, text)


class Standings(Refusing):
    def test_written(self):
        arrow = Drawing(2, [(0, 1)])
        row = Drawing(3, [(0, 1), (2, 1)])
        for standing, text in (
                (Standing(FIVE, arrow, [2, 1], [(1, 2, [[3, 4]])]), "2 1; 3 4"),
                (Standing(FIVE, arrow, [1, 2], [(2, 1, [[3], [4]])]), "1 2; 3 / 4"),
                (Standing(FIVE, row, [1, 2, 0], [(2, 1, [[3], [4]]), (2, 0, [[], []])]), "1 2 0; 3 / 4; -"),
                (Standing(FRACTIONS, row, [1, 1, 2], [(1, 1, [[(-1, 2)]]), (1, 2, [[(0, 1), (7, 3)]])]),
                 "1 1 2; -1/2; 0 7/3"),
                (Standing(FIVE, Drawing(1, []), [40], []), "40"), (Standing(FIVE, Drawing(2, []), [0, 0], []), "0 0"),
                (Standing(FIVE, Drawing(1, [(0, 0)]), [0], [(0, 0, [])]), "0; -")):
            self.assertEqual(show_standing(standing), text)
            found = read_standing(standing.ground, standing.drawing, text)
            self.assertIs(type(found), Standing)
            self.assertEqual(fields(found), fields(standing))

    def test_written_and_read_again(self):
        chance = random.Random(4)
        for ground in GROUNDS:
            for many, arrows in list(samples(4, 60)) + KINDLESS:
                standing = standing_of(ground, chance, Drawing(many, arrows), 4)
                found = read_standing(ground, standing.drawing, show_standing(standing))
                self.assertEqual(fields(found), fields(standing))

    def test_large_ones(self):
        chance = random.Random(5)
        arrow = Drawing(2, [(0, 1)])
        for ground in GROUNDS:
            standing = Standing(ground, arrow, [20, 20], [sample(ground, chance, 20, 20)])
            found = read_standing(ground, arrow, show_standing(standing))
            self.assertEqual(fields(found), fields(standing))

    def test_sizes_beyond_forty_are_written(self):
        self.assertEqual(show_standing(nothing_on(FIVE, Drawing(2, []), [40, 41])), "40 41")
        self.assertEqual(show_standing(nothing_on(FIVE, Drawing(1, []), [HUGE])), THIRTY)

    def test_read_but_not_written(self):
        arrow = Drawing(2, [(0, 1)])
        self.assertEqual(read_standing(FIVE, arrow, "2 1; 8 -1/2").tables, [(1, 2, [[3, 2]])])
        self.assertEqual(read_standing(FRACTIONS, arrow, "1 2; 2/4 / 6/3").tables, [(2, 1, [[(1, 2)], [(2, 1)]])])

    def test_not_read(self):
        row = Drawing(3, [(0, 1), (2, 1)])
        for ground in (FIVE, FRACTIONS):
            read_standing(ground, row, "1 2 0; 3 / 4; -")
            for text in ("", " ", "1", "1 2", "1 2 0", "1 2 0;", "1 2 0; ", "1 2 0; 3 / 4", "1 2 0; 3 / 4;",
                         "1 2 0; 3 / 4; ", "1 2 0; 3 / 4; -;", "1 2 0; 3 / 4; -; -", "1 2 0; 3 / 4; - ",
                         " 1 2 0; 3 / 4; -", "1  2 0; 3 / 4; -", "1 2 0;  3 / 4; -", "1 2 0; 3  / 4; -",
                         "1 2 0; 3 /  4; -", "1 2 0 ; 3 / 4; -", "1 2 0;3 / 4; -", "1 2 0; 3 / 4;-", "1 2 0; 3/4; -",
                         "1 2 0; 3 /4; -", "1 2 0; 3/ 4; -", "1 2 0; 3 4; -", "1 2 0; 3; -", "1 2 0; 3 / 4 / 0; -",
                         "1 2 0; 3 0 / 4; -", "1 2 0; 3 / 4 0; -", "1 2 0; 3 0 / 4 0; -", "1 2 0; 3 / 4; 0",
                         "1 2 0; -; -", "1 2 0; 3 / -; -", "1 2 0; 3 / 4; --", "1 2 0; 3 / 4; ", "1 2; 3 / 4; -",
                         "1 2 0 0; 3 / 4; -", "1,2,0; 3 / 4; -", "01 2 0; 3 / 4; -", "1 2 -0; 3 / 4; -",
                         "1 2 00; 3 / 4; -", "-1 2 0; 3 / 4; -", "+1 2 0; 3 / 4; -", "1/1 2 0; 3 / 4; -",
                         "a 2 0; 3 / 4; -", "1 2 0; a / 4; -", "1 2 0; 3 / 04; -", "1 2 0; 3 / 4/0; -",
                         "1 2 0; 3 / 4, -", "1 2 0; 3 / 4; - / -", "1 2 0; 3 // 4; -", "1 2 0; / 3 / 4; -",
                         "1 2 0; 3 / 4 /; -", "1 2 0; 3 / 4; [[], []]", "1 2 0; 3 / / 4; -", "; 1 2 0; 3 / 4; -",
                         "1 2 0: 3 / 4: -"):
                self.refused(NoText, read_standing, ground, row, text)

    def test_one_sign_too_many_too_few_or_another_one(self):
        """Whatever is read besides is another way of writing a standing: its sizes and tables are such."""
        row = Drawing(3, [(0, 1), (2, 1)])
        text = "1 2 1; 3 / 14; -1/2 / 0"
        signs = [chr(code) for code in range(32, 127) if chr(code) != "%"]
        read = 0
        for at in range(len(text) + 1):
            spoiled = [text[:at] + text[at + 1:]]
            spoiled += [text[:at] + sign + text[at:] for sign in signs]
            spoiled += [text[:at] + sign + text[at + 1:] for sign in signs]
            for given in spoiled:
                try:
                    found = read_standing(FRACTIONS, row, given)
                except NoText:
                    continue
                read += 1
                self.assertEqual(found.sizes, [1, 2, 1])
                # Only figures, minus and slash may differ, and what is written of it is read the same.
                self.assertEqual(fields(read_standing(FRACTIONS, row, show_standing(found))), fields(found))
                self.assertEqual(given.count(" "), text.count(" "))
                self.assertEqual(given.count(";"), 2)
        self.assertGreater(read, 30)

    def test_sizes_that_come_to_more_than_forty(self):
        two = Drawing(2, [])
        for text in ("40 0", "0 40", "20 20", "39 1"):
            self.assertEqual(sum(read_standing(FIVE, two, text).sizes), 40)
        for text in ("41 0", "40 1", "20 21", "1 40", f"{THIRTY} 0", f"0 {THIRTY}", "100 0"):
            self.refused(NoText, read_standing, FIVE, two, text)
        arrow = Drawing(2, [(0, 1)])
        self.refused(NoText, read_standing, FIVE, arrow, f"0 {THIRTY}; -")
        self.refused(NoText, read_standing, FIVE, arrow, "41 0; -")
        read_standing(FIVE, arrow, "40 0; -")

    def test_bottoms_that_the_prime_divides(self):
        arrow = Drawing(2, [(0, 1)])
        read_standing(FRACTIONS, arrow, "1 1; 1/5")
        self.refused(NoText, read_standing, FIVE, arrow, "1 1; 1/5")
        self.refused(NoText, read_standing, FIVE, arrow, "1 1; 0/10")

    def test_long_numbers_are_written(self):
        loop = Drawing(1, [(0, 0)])
        standing = Standing(FRACTIONS, loop, [1], [(1, 1, [[(10 ** 5000, 3)]])])
        self.assertEqual(show_standing(standing), "1; 1" + "0" * 5000 + "/3")
        self.refused(NoText, read_standing, FRACTIONS, loop, "1; 1" + "0" * 30)

    def test_units(self):
        for ground in GROUNDS:
            standing = Standing(ground, Drawing(1, [(0, 0)]), [3], [unit(ground, 3)])
            self.assertEqual(show_standing(standing), "3; 1 0 0 / 0 1 0 / 0 0 1")


if __name__ == "__main__":
    unittest.main()
