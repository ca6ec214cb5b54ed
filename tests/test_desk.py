"""The desk: its rows, its answers and what it refuses [29], [30]."""

import random
import unittest

from drawn import KINDLESS
from limbtables.alike import parting
from limbtables.apart import counts
from limbtables.desk import Desk
from limbtables.drawings import Drawing
from limbtables.errors import LimbError, NoDrawing, NoGround, NoKind, NoMirror, NoName, NoRow, NoText
from limbtables.grounds import Ground
from limbtables.mirrors import turned_in, turned_out
from limbtables.parts import part_of
from limbtables.roots import roots
from limbtables.standings import changed, count_maps, count_ties, side_of
from limbtables.texts import read_standing, show_drawing, show_standing
from reckoned import good_drawings, worth_of
from samples import ODD_THINGS, rank_of, sample_changes, standing_of

ROW = "3: 0>1 2>1"
RING = "2: 0>1 0>1"


class Case(unittest.TestCase):
    def refused(self, error, desk, *rows):
        for row in rows:
            with self.subTest(row), self.assertRaises(error) as caught:
                desk.say(row)
            self.assertIsInstance(caught.exception, LimbError)

    def desk(self, prime, text, *rows):
        """A desk that was told rows which it answers by ok."""
        desk = Desk(prime, text)
        for row in rows:
            self.assertEqual(desk.say(row), "ok")
        return desk


class Made(Case):
    def test_grounds(self):
        for prime in (0, 2, 97):
            self.assertEqual(Desk(prime, ROW).say("good"), "yes")
        for prime in [1, 4, 98, 101, -2, 10 ** 29] + ODD_THINGS:
            with self.subTest(repr(prime)), self.assertRaises(NoGround):
                Desk(prime, ROW)

    def test_drawings(self):
        for text in ("", "3", "3: ", "3:0>1", "x", "03:", "3: 0>1 ", "-1:"):
            with self.subTest(text), self.assertRaises(NoText):
                Desk(0, text)
        for text in ("0:", "9:", "2: 0>2", "2:" + " 0>1" * 10):
            with self.subTest(text), self.assertRaises(NoDrawing):
                Desk(2, text)

    def test_which_refusal_comes_first(self):
        for text in ("", "9:", "x", ROW):
            with self.assertRaises(NoGround):
                Desk(4, text)
            with self.assertRaises(NoGround):
                Desk(True, text)
        with self.assertRaises(NoText):
            Desk(2, "9: x")


class Answers(Case):
    def test_keep_and_told(self):
        desk = self.desk(5, ROW, "keep a 1 2 0; 3 / 4; -", "keep abcdefgh 0 0 0; -; -")
        self.assertEqual(desk.say("told a"), "1 2 0; 3 / 4; -")
        self.assertEqual(desk.say("told abcdefgh"), "0 0 0; -; -")
        self.assertEqual(desk.say("told a"), "1 2 0; 3 / 4; -")

    def test_told_is_written_as_texts_are(self):
        desk = self.desk(5, "2: 0>1", "keep a 1 1; 7/2")
        self.assertEqual(desk.say("told a"), "1 1; 1")
        desk = self.desk(0, "2: 0>1", "keep a 1 1; 14/4")
        self.assertEqual(desk.say("told a"), "1 1; 7/2")

    def test_keep_in_the_place_of_an_elder_one(self):
        desk = self.desk(5, "2: 0>1", "keep a 1 1; 1", "keep b 1 1; 2", "keep a 1 1; 3")
        self.assertEqual(desk.say("told a"), "1 1; 3")
        self.assertEqual(desk.say("told b"), "1 1; 2")

    def test_without_arrows(self):
        desk = self.desk(0, "1:", "keep a 3")
        for row, due in (("told a", "3"), ("counts a", "1:3"), ("good", "yes"), ("kinds", "A1"), ("roots", "1"),
                         ("maps a a", "9 0"), ("alike a a", "yes")):
            self.assertEqual(desk.say(row), due)

    def test_good(self):
        for drawing in good_drawings(1, 20):
            self.assertEqual(Desk(2, show_drawing(drawing)).say("good"), "yes")
        for many, arrows in KINDLESS:
            drawing = Drawing(many, arrows)
            word, row = Desk(2, show_drawing(drawing)).say("good").split(" ")
            self.assertEqual(word, "no")
            numbers = [int(number) for number in row.split(",")]
            self.assertEqual(row, ",".join(map(str, numbers)))
            self.assertEqual(len(numbers), many)
            self.assertTrue(min(numbers) >= 0 < max(numbers))
            self.assertLessEqual(worth_of(drawing, numbers), 0)

    def test_kinds(self):
        for text, due in (("1:", "A1"), (ROW, "A3"), ("4: 0>3 1>3 2>3", "D4"), ("6: 0>1 1>2 2>3 3>4 2>5", "E6"),
                          ("4: 0>1 2>3 2>3", "A2 none"), ("3:", "A1 A1 A1"), (RING, "none"), ("2: 1>1", "A1 none"),
                          ("8: 0>1 1>2 2>3 3>4 4>5 5>6 2>7", "E8"), ("6: 5>0 1>5 2>1 3>4", "A4 A2")):
            self.assertEqual(Desk(3, text).say("kinds"), due)

    def test_roots(self):
        for text, due in (("1:", "1"), (ROW, "6"), ("4: 0>3 1>3 2>3", "12"), ("6: 0>1 1>2 2>3 3>4 2>5", "36"),
                          ("8: 0>1 1>2 2>3 3>4 4>5 5>6 2>7", "120"), ("3:", "3")):
            self.assertEqual(Desk(3, text).say("roots"), due)
        self.refused(NoKind, Desk(0, RING), "roots")

    def test_counts(self):
        desk = self.desk(5, ROW, "keep a 1 2 0; 3 / 4; -", "keep none 0 0 0; -; -", "keep b 2 1 1; 0 1; 1")
        self.assertEqual(desk.say("counts a"), "0,1,0:1 1,1,0:1")
        self.assertEqual(desk.say("counts none"), "nothing")
        self.assertEqual(desk.say("counts b"), "1,0,0:1 1,1,1:1")
        desk = self.desk(2, RING, "keep a 1 1; 1; 1")
        self.refused(NoKind, desk, "counts a")

    def test_alike(self):
        desk = self.desk(5, "2: 0>1", "keep a 1 1; 1", "keep b 1 1; 3", "keep c 1 1; 0", "keep d 0 0; -")
        self.assertEqual(desk.say("alike a b"), "yes")
        self.assertEqual(desk.say("alike a a"), "yes")
        for one, other in (("a", "c"), ("c", "a"), ("b", "c"), ("a", "d"), ("d", "d")):
            answer = desk.say(f"alike {one} {other}")
            if one == other:
                self.assertEqual(answer, "yes")
                continue
            word, root, ones, others = answer.split(" ")
            self.assertEqual(word, "no")
            part = part_of(Ground(5), Drawing(2, [(0, 1)]), [int(number) for number in root.split(",")])
            texts = [desk.say(f"told {name}") for name in (one, other)]
            due = [count_maps(part, read_standing(part.ground, part.drawing, text)) for text in texts]
            self.assertEqual([ones, others], [str(many) for many in due])
            self.assertNotEqual(ones, others)
        desk = self.desk(2, RING, "keep a 1 1; 1; 1")
        self.refused(NoKind, desk, "alike a a")

    def test_maps(self):
        desk = self.desk(5, "2: 0>1", "keep a 1 1; 1", "keep b 2 1; 0 0", "keep c 0 0; -")
        self.assertEqual(desk.say("maps a a"), "1 0")
        self.assertEqual(desk.say("maps a b"), "2 0")
        self.assertEqual(desk.say("maps b a"), "1 0")
        self.assertEqual(desk.say("maps a c"), "0 0")
        self.assertEqual(desk.say("maps b b"), "5 2")
        desk = self.desk(2, RING, "keep a 1 1; 1; 1", "keep b 1 1; 0; 1")
        self.assertEqual(desk.say("maps a b"), "0 0")
        self.assertEqual(desk.say("maps a a"), "1 1")

    def test_rank(self):
        desk = self.desk(5, ROW, "keep a 2 2 1; 1 2 / 2 4; 1 / 0", "keep b 0 2 1; -; 0 / 0")
        self.assertEqual([desk.say(f"rank {name} {place}") for name in "ab" for place in (0, 1)], ["1", "1", "0", "0"])
        desk = self.desk(2, "2:" + " 0>1" * 9, "keep a 1 1" + "; 0" * 8 + "; 1")
        self.assertEqual([desk.say(f"rank a {place}") for place in range(9)], ["0"] * 8 + ["1"])

    def test_sum(self):
        desk = self.desk(5, "2: 0>1", "keep a 1 1; 1", "keep b 2 1; 3 4", "sum a b c", "sum b a d", "sum a a a",
                         "sum d d d")
        self.assertEqual(desk.say("told c"), "3 2; 1 0 0 / 0 3 4")
        self.assertEqual(desk.say("told a"), "2 2; 1 0 / 0 1")
        self.assertEqual(desk.say("told b"), "2 1; 3 4")
        self.assertEqual(desk.say("told d"), "6 4; 3 4 0 0 0 0 / 0 0 1 0 0 0 / 0 0 0 3 4 0 / 0 0 0 0 0 1")
        self.assertEqual(desk.say("counts d"), "1,0:2 1,1:4")

    def test_sums_beyond_forty(self):
        desk = self.desk(2, "1:", "keep a 40", "sum a a b", "sum b a b")
        self.assertEqual(desk.say("told b"), "120")
        self.assertEqual(desk.say("counts b"), "1:120")


class Turnings(Case):
    def test_at_a_well(self):
        desk = self.desk(5, ROW, "keep a 1 2 1; 3 / 4; 1 / 0", "turn a 1 x", "home x b")
        self.assertEqual(desk.say("alike a b"), "yes")
        desk = self.desk(5, ROW, "keep a 1 3 1; 3 / 4 / 0; 3 / 4 / 0", "turn a 1 x", "home x b")
        # Two single ones of the point are split off.
        self.assertEqual(desk.say("counts a"), "0,1,0:2 1,1,1:1")
        self.assertEqual(desk.say("counts b"), "1,1,1:1")

    def test_at_a_spring(self):
        desk = self.desk(0, ROW, "keep a 3 1 1; 1 2 3; 1/2", "turn a 0 x", "home x b")
        self.assertEqual(desk.say("counts a"), "1,0,0:2 1,1,1:1")
        self.assertEqual(desk.say("counts b"), "1,1,1:1")

    def test_at_a_point_without_arrows(self):
        desk = self.desk(3, "3: 0>1", "keep a 1 1 2; 1", "turn a 2 x", "home x b")
        self.assertEqual(desk.say("told b"), "1 1 0; 1")
        self.assertEqual(desk.say("told a"), "1 1 2; 1")

    def test_held_against_the_mirrors(self):
        chance = random.Random(3)
        for drawing in list(good_drawings(3, 24)) + [Drawing(many, arrows) for many, arrows in KINDLESS]:
            for prime in (0, 3):
                ground = Ground(prime)
                standing = standing_of(ground, chance, drawing)
                desk = self.desk(prime, show_drawing(drawing), f"keep a {show_standing(standing)}")
                for point in range(drawing.many):
                    well, spring = drawing.is_well(point), drawing.is_spring(point)
                    if not well and not spring:
                        self.refused(NoMirror, desk, f"turn a {point} x")
                        continue
                    due = turned_out(turned_in(standing, point), point) if well else turned_in(
                        turned_out(standing, point), point)
                    self.assertEqual(desk.say(f"turn a {point} x"), "ok")
                    self.assertEqual(desk.say("home x b"), "ok")
                    self.assertEqual(desk.say("told b"), show_standing(due))
                    self.assertEqual(desk.say("told a"), show_standing(standing))

    def test_two_books(self):
        desk = self.desk(5, "2: 0>1", "keep a 1 1; 1", "turn a 1 a", "turn a 0 b")
        self.assertEqual(desk.say("told a"), "1 1; 1")
        self.refused(NoName, desk, "told b", "counts b", "turn b 0 x", "rank b 0", "sum a b x", "alike b a", "maps a b")
        self.assertEqual(desk.say("keep b 2 0; -"), "ok")
        self.assertEqual(desk.say("home a c"), "ok")
        self.assertEqual(desk.say("told b"), "2 0; -")
        self.assertEqual(desk.say("home b b"), "ok")
        self.assertEqual(desk.say("counts b"), "1,1:1")
        self.assertEqual(desk.say("told a"), "1 1; 1")
        # A name of the first book alone is none of the other one.
        self.refused(NoName, desk, "home c x")
        self.assertEqual(desk.say("home a a"), "ok")
        self.assertEqual(desk.say("home a c"), "ok")

    def test_in_the_place_of_an_elder_one(self):
        desk = self.desk(5, "2: 0>1", "keep a 1 1; 1", "keep b 2 0; -", "turn a 1 x", "turn b 1 x", "home x c")
        self.assertEqual(desk.say("told c"), "2 0; -")
        desk = self.desk(5, "2: 0>1", "keep a 2 1; 1 0", "turn a 1 x", "turn a 0 x", "home x c")
        # Turned at the spring last: one single standing of it is split off.
        self.assertEqual(desk.say("counts c"), "1,1:1")

    def test_what_was_turned_stays_when_its_elder_is_kept_anew(self):
        desk = self.desk(5, "2: 0>1", "keep a 1 1; 1", "turn a 1 x", "keep a 0 0; -", "home x b")
        self.assertEqual(desk.say("counts b"), "1,1:1")

    def test_long_numbers(self):
        """What comes of numbers of thirty figures has as many figures as it needs."""
        chance = random.Random(4)
        rows = [[str(chance.randint(10 ** 29, 10 ** 30 - 1)) for _ in range(6)] for _ in range(5)]
        text = "6 5; " + " / ".join(" ".join(row) for row in rows)
        desk = self.desk(0, "2: 0>1", f"keep a {text}", "turn a 1 x", "home x b")
        self.assertEqual(desk.say("told a"), text)
        self.assertEqual(desk.say("counts a"), "1,0:1 1,1:5")
        self.assertEqual(desk.say("counts b"), "1,0:1 1,1:5")
        self.assertTrue(desk.say("told b").startswith("6 5; "))


class Refused(Case):
    def setUp(self):
        self.rows = ("keep a 1 2 1; 1 / 0; 0 / 1", "keep b 1 2 1; 1 / 0; 1 / 0", "turn a 1 x")
        self.row = self.desk(5, ROW, *self.rows)

    def test_rows_of_no_form(self):
        self.refused(
            NoRow, self.row, "", " ", "x", "Good", "good ", " good", "good a", "good  ", "goods", "goo", "kinds a",
            "kinds ", "roots a", "roots ", "roots  ", "keep", "keep ", "keep a", "keep a ", "keep  ",
            "keep  1 2 1; 1 / 0; 0 / 1", "keep A 1 2 1; 1 / 0; 0 / 1", "keep a1 1 2 1; 1 / 0; 0 / 1",
            "keep abcdefghi 1 2 1; 1 / 0; 0 / 1", "keep a;1 2 1", "Keep a 1 2 1; 1 / 0; 0 / 1", "told", "told ",
            "told  a", "told a ", " told a", "told a b", "told A", "told a1", "told 1", "told abcdefghi", "told a-b",
            "told a;", "counts", "counts ", "counts a b", "counts a ", "counts 0", "alike", "alike a", "alike a ",
            "alike a b c", "alike a  b", "alike a B", "alike a b ", "alike a,b", "alike A b", "alike 1 b", "maps a B",
            "maps a 1", "sum A b c", "sum a B c", "sum 1 b c", "sum a 1 c", "maps", "maps a", "maps a b c", "maps a b ",
            "maps A b", "turn", "turn a", "turn a 1", "turn a 1 ", "turn a x", "turn a 1 x y", "turn a 01 x",
            "turn a 00 x", "turn a -1 x", "turn a 100 x", "turn a 1.0 x", "turn a +1 x", "turn a one x", "turn a  x",
            "turn 1 a x", "turn a 1 X", "turn a 1 xxxxxxxxx", "turn A 1 x", "home", "home x", "home x ", "home x y z",
            "home X y", "home x 1", "home x  y", "sum", "sum a", "sum a b", "sum a b ", "sum a b c d", "sum a b C",
            "sum a  b c", "rank", "rank a", "rank a ", "rank a b", "rank a 01", "rank a -1", "rank a 0 0", "rank a 100",
            "rank 0 a", "rank a 0 ", "rank a 1/1", "tell a", "told:a", "keepa 1 2 1", "quit", "help", "~", "keep\\a")

    def test_texts_that_are_none(self):
        self.refused(NoText, self.row, "keep a 1", "keep a  ", "keep a x", "keep a 1 2 1", "keep a 1 2 1; 1 / 0",
                     "keep a  1 2 1; 1 / 0; 0 / 1", "keep a 1 2 1; 1 / 0; 0 / 1 ", "keep a 1 2 1; 1 0; 0 / 1",
                     "keep a 41 0 0; -; -", "keep a 1 2 1; 1/5 / 0; 0 / 1", "keep a -", "keep a ;", "keep a b",
                     "keep a 1 2 1; 1 / 0; 0 / 1; 0", "keep zz 1 2 01; 1 / 0; 0 / 1")

    def test_names(self):
        self.refused(NoName, self.row, "told z", "counts z", "alike a z", "alike z a", "alike z y", "maps a z",
                     "maps z a", "turn z 1 x", "home z a", "home a z", "home b a", "sum a z c", "sum z a c",
                     "sum z z z", "rank z 0", "told x", "counts x", "rank x 0", "turn x 1 y", "alike a x")

    def test_points_and_arrows(self):
        self.refused(NoDrawing, self.row, "turn a 3 y", "turn a 9 y", "turn a 99 y", "turn a 10 y", "rank a 2",
                     "rank a 3", "rank a 99")
        self.refused(NoDrawing, self.desk(2, "1:", "keep a 1"), "rank a 0", "turn a 1 x")

    def test_mirrors(self):
        desk = self.desk(2, "3: 0>1 1>2", "keep a 0 0 0; -; -")
        self.refused(NoMirror, desk, "turn a 1 x")
        self.refused(NoName, desk, "home x b")
        self.refused(NoMirror, self.desk(2, "1: 0>0", "keep a 0; -"), "turn a 0 x")

    def test_which_refusal_comes_first(self):
        desk = self.desk(2, "4: 0>1 1>2 2>0 3>0", "keep a 0 0 0 0; -; -; -; -")
        # A row of no form ahead of a text that is none, a name, a point, a mirror.
        self.refused(NoRow, desk, "keep A x", "keep a1 x", "keep abcdefghi ", "turn z 99 X", "turn z 999 x",
                     "rank z 00", "rank Z 9", "alike z Z", "sum z y X", "home z Z", "told z z")
        # A name ahead of a point or an arrow that is none, and ahead of a drawing that is not good.
        self.refused(NoName, desk, "turn z 9 x", "turn z 1 x", "rank z 9", "counts z", "alike a z", "alike z a",
                     "maps z a")
        # A point that is none ahead of a point that is neither a well nor a spring.
        self.refused(NoDrawing, desk, "turn a 4 x", "rank a 4")
        self.refused(NoMirror, desk, "turn a 1 x", "turn a 0 x", "turn a 2 x")
        self.refused(NoKind, desk, "counts a", "alike a a", "roots")
        self.assertEqual(desk.say("turn a 3 x"), "ok")
        self.assertEqual(desk.say("rank a 3"), "0")

    def test_text_ahead_of_all_but_the_form(self):
        self.refused(NoText, self.row, "keep zz x", "keep a 9 9 9; 1")

    def test_what_is_refused_changes_nothing(self):
        asked = ("told a", "told b", "counts a", "alike a b", "maps a b", "rank a 0", "good", "kinds", "roots")
        before = [self.row.say(row) for row in asked]
        for row in ("keep a 1 2 1; 1 / 0", "keep c x", "keep a", "turn a 3 x", "turn z 1 x", "turn a 1 X", "sum a z a",
                    "sum z a b", "sum a b", "home z a", "home a b", "home x", "rank a 7", "told q", "nothing", ""):
            with self.assertRaises(LimbError):
                self.row.say(row)
            self.assertEqual([self.row.say(row) for row in asked], before)
        self.refused(NoName, self.row, "told c", "home z a")
        # What was turned is there still, as it was.
        self.assertEqual(self.row.say("home x c"), "ok")
        self.assertEqual(self.row.say("alike a c"), "yes")

    def test_a_mirror_refused_keeps_the_elder_one(self):
        desk = self.desk(2, "3: 0>1 1>2", "keep a 1 1 1; 1; 1", "turn a 2 x")
        self.refused(NoMirror, desk, "turn a 1 x")
        self.refused(NoDrawing, desk, "turn a 3 x")
        self.refused(NoName, desk, "turn b 2 x")
        self.assertEqual(desk.say("home x b"), "ok")
        self.assertEqual(desk.say("alike a b"), "yes")


class Desks(Case):
    def test_each_desk_has_books_of_its_own(self):
        one, other = self.desk(5, ROW, "keep a 0 0 0; -; -", "turn a 0 x"), Desk(5, ROW)
        self.refused(NoName, other, "told a", "home x a")
        self.assertEqual(one.say("told a"), "0 0 0; -; -")

    def test_asking_changes_nothing(self):
        desk = self.desk(0, ROW, "keep a 1 2 1; 1/2 / 0; 0 / 1", "keep b 1 2 1; 1 / 0; 1 / 0")
        for _ in range(2):
            for row in ("good", "kinds", "roots", "counts a", "alike a b", "alike b a", "maps a b", "rank a 0",
                        "told b"):
                desk.say(row)
            self.assertEqual((desk.say("told a"), desk.say("told b")), ("1 2 1; 1/2 / 0; 0 / 1", "1 2 1; 1 / 0; 1 / 0"))

    def test_held_against_the_modules(self):
        chance = random.Random(5)
        for drawing in good_drawings(5, 24):
            for prime in (0, 2):
                ground = Ground(prime)
                one = standing_of(ground, chance, drawing)
                other = chance.choice([standing_of(ground, chance, drawing),
                                       changed(one, sample_changes(ground, chance, one))])
                desk = self.desk(prime, show_drawing(drawing), f"keep one {show_standing(one)}",
                                 f"keep two {show_standing(other)}", "sum one two both")
                due = " ".join(f"{','.join(map(str, root))}:{many}" for root, many in counts(one)) or "nothing"
                self.assertEqual(desk.say("counts one"), due)
                self.assertEqual(desk.say("maps one two"), f"{count_maps(one, other)} {count_ties(one, other)}")
                self.assertEqual(desk.say("roots"), str(len(roots(drawing))))
                self.assertEqual(desk.say("told both"), show_standing(side_of(ground, drawing, [one, other])))
                self.assertEqual(desk.say("alike one two") == "yes", parting(one, other) is None)
                for at, table in enumerate(one.tables):
                    self.assertEqual(desk.say(f"rank one {at}"), str(rank_of(ground, table)))


if __name__ == "__main__":
    unittest.main()
